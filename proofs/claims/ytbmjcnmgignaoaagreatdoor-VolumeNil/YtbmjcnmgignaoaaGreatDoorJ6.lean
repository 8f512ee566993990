/- What look returns. -/
import Derived.Test.YtbmjcnmgignaoaaGreatDoorJ5
import Derived.Deep.RegionHeld3
import Derived.Laws.IdiomStrings

namespace Go.Proofs.YtbmjcnmgignaoaaGreatDoor
open Go.RowKit Vecm Opened Wirem Txt Frm Diskm Arym Volm
open Blkm (Bk bk0 owE owB)
open Cfm (Cf)
open Crcm (bys)
set_option linter.unusedVariables false

theorem vinfo {i : TypeId} {z : Value} {a b : Nat} (h : (Tryz.prog.info? i).map (fun i => (i.zero, i.size, i.bytes)) = some (some z, a, b)) : ∃ i0, Tryz.prog.info? i = some i0 ∧ i0.zero = some z ∧ i0.size = a ∧ i0.bytes = b := by
  cases hi : Tryz.prog.info? i with
  | none => rw [hi] at h; cases h
  | some x => rw [hi] at h; simp at h; exact ⟨x, rfl, h.1, h.2.1, h.2.2⟩
theorem own_apart {w : World} {b1 b2 e1 e2 z1 z2 n1 n2 : Nat} {v1 v2 : Value} {xs ys : List Value} (h1 : w.ownsRow b1 e1 z1 v1 n1 xs) (h2 : w.ownsRow b2 e2 z2 v2 n2 ys) (he : e1 ≠ e2) : ∀ k ∈ blk v1, k ∉ blk v2 := by
  intro k hk hk2
  rcases h1.2 with ⟨rfl, _⟩ | ⟨g, cap, cur, rfl, _, hg, _⟩
  · cases hk
  · rcases h2.2 with ⟨rfl, _⟩ | ⟨g', cap', cur', rfl, _, hg', _⟩
    · cases hk2
    · simp [blk] at hk hk2
      subst hk
      subst hk2
      rw [hg] at hg'
      simp at hg'
      exact he hg'.2
/-- A row of one's own beside another one that grows. -/
theorem own_beside {w w' : World} {b1 b2 e1 e2 z1 z2 n1 n2 : Nat} {v1 v2 : Value} {xs ys : List Value} (h1 : w.ownsRow b1 e1 z1 v1 n1 xs) (h2 : w.ownsRow b2 e2 z2 v2 n2 ys) (he : e1 ≠ e2) (hg : w.grownBy w' v2.ownBlock) : w'.ownsRow b1 e1 z1 v1 n1 xs :=
  own_kept h1 ((Fr.refl (blk v2) w).grown hg (fun k hk => .inl (blk_own hk))) (own_apart h1 h2 he)
/-- Layouts that may be. -/
structure Fine (c : Cf) : Prop where
  may : Cfm.mayB c = true
  k1 : 1 ≤ c.k
  m1 : 1 ≤ c.m
  km : c.k + c.m ≤ 255
  sh0 : 8 ≤ c.sh
  sh1 : c.sh ≤ 1024
  st0 : 1 ≤ c.st
  st1 : c.st ≤ 1000
  sl0 : 1 ≤ c.sl
  sl1 : c.sl ≤ 16
  kd : c.k * c.sh ≤ 4000
def dsN (c : Cf) : Nat := (c.k + c.m).toNat
theorem Fine.disks {c : Cf} (h : Fine c) : diskN c = (dsN c : Int) := by
  rw [diskN, of_yes h.may, dsN]; have := h.k1; have := h.m1; omega
def LookP (w : World) (A : Ar) (c : Cf) (id n : Int) (e : Ending) (w' : World) : Prop :=
  ∃ v1 v2, e = .returned (.tuple #[v1, v2]) ∧ w'.ownsRow w.heap.size 9 1 v1 (dsN c) (strs (lkSs A c id n (dsN c))) ∧ w'.ownsRow w.heap.size 3 1 v2 (dsN c) (zcs (lkEs A c id n (dsN c))) ∧ Below w.heap.size w w'

set_option maxRecDepth 100000 in
set_option maxHeartbeats 4000000 in
theorem look_any {w : World} {pv pa : Nat} {fp : List Nat} {A : Ar} {c : Cf} {id seq : Int} (h : IsW w pv pa fp A c id seq) (hs : Slim A) (hc : Fine c) (n : Int) (hn : n ≤ 9223372036854775807) :
    Calls Tryz.prog 43 #[.pointer (some ⟨pv, 0, none⟩), .int .i64 n] w (LookP w A c id n) := by
  obtain ⟨i0, hi, hz0, hz1, hz2⟩ := vinfo (i := 9) (z := .string ByteArray.empty) (a := 1) (b := 16) (by kernel_rfl)
  obtain ⟨j0, hj, hy0, hy1, hy2⟩ := vinfo (i := 3) (z := .int .i64 0) (a := 1) (b := 8) (by kernel_rfl)
  have HI : Hid (_) := hi
  have HZ0 : Hid (_) := hz0
  have HZ1 : Hid (_) := hz1
  have HZ2 : Hid (_) := hz2
  have HJ : Hid (_) := hj
  have HY0 : Hid (_) := hy0
  have HY1 : Hid (_) := hy1
  have HY2 : Hid (_) := hy2
  have H0 : Hid (IsW w pv pa fp A c id seq) := h
  have CD : Hid (∀ W, Calls Tryz.prog 34 #[.agg (cfC c)] W fun e w' => e = .returned (.int .i64 (dsN c : Int)) ∧ Below W.heap.size W w') := show ∀ W, _ from fun W => by rw [← hc.disks]; exact disks_any c W
  have CS : Hid (∀ W, Calls Tryz.prog 60 #[.agg (cfC c), .int .i64 n] W fun e w' => e = .returned (.int .i64 (Cfm.stripeN c n)) ∧ Below W.heap.size W w') := show ∀ W, _ from fun W => stripe_any c n W hn
  have CO : Hid (∀ W, IsW W pv pa fp A c id seq → ∀ d : Int, Calls Tryz.prog 55 #[.pointer (some ⟨pv, 0, none⟩), .int .i64 d, .int .i64 (Cfm.stripeN c n)] W (VownP W A id d (Cfm.stripeN c n))) := show ∀ W, _ → ∀ d, _ from fun W hW d => vown_any hW hs d _
  have HSN : Hid (∀ k, strs (lkSs A c id n k) ++ [.string (lkS A c id n (k : Int))] = strs (lkSs A c id n (k + 1))) := show ∀ k, _ from fun k => by rw [lkSs_snoc]; simp [strs]
  have HEN : Hid (∀ k, zcs (lkEs A c id n k) ++ [.int .i64 (lkE A c id n (k : Int))] = zcs (lkEs A c id n (k + 1))) := show ∀ k, _ from fun k => by rw [lkEs_snoc, ← zcs_snoc]
  have HNO : Hid (∀ d, (vOk A id d (Cfm.stripeN c n) = false ∨ ((vBk A id d (Cfm.stripeN c n)).text.size : Int) ≠ c.sh) → lkS A c id n d = nul ∧ lkE A c id n d = -1) := show ∀ d, _ → _ from fun d hd => by
    have e : shB A c id n d = false := by
      rw [shB]
      rcases hd with e | e
      · rw [e]; rfl
      · rw [decide_eq_false e, Bool.and_false]
    rw [lkS, lkE, e]; exact ⟨rfl, rfl⟩
  have HYE : Hid (∀ d, vOk A id d (Cfm.stripeN c n) = true → ((vBk A id d (Cfm.stripeN c n)).text.size : Int) = c.sh → lkS A c id n d = (vBk A id d (Cfm.stripeN c n)).text ∧ lkE A c id n d = (vBk A id d (Cfm.stripeN c n)).epoch) := show ∀ d, _ → _ → _ from fun d h1 h2 => by
    have e : shB A c id n d = true := by rw [shB, h1, decide_eq_true h2]; rfl
    rw [lkS, lkE, if_pos e, if_pos e]; exact ⟨rfl, rfl⟩
  have hD : dsN c ≤ 255 := by unfold dsN; have := hc.km; omega
  unfold VownP at CO
  obtain ⟨D, hDe⟩ : ∃ D, D = dsN c := ⟨_, rfl⟩
  have HDE : Hid (D = dsN c) := hDe
  rw [← hDe] at CD hD
  obtain ⟨ck, cm, csh, cst, csl⟩ := c
  rw [cfC] at CD CS
  dsimp only at CD CS HNO HYE
  have HCL : Hid (∀ W, IsW W pv pa fp A ⟨ck, cm, csh, cst, csl⟩ id seq → W.cell? ⟨pv, 1, none⟩ = some (.int .i64 ck) ∧ W.cell? ⟨pv, 2, none⟩ = some (.int .i64 cm) ∧ W.cell? ⟨pv, 3, none⟩ = some (.int .i64 csh) ∧ W.cell? ⟨pv, 4, none⟩ = some (.int .i64 cst) ∧ W.cell? ⟨pv, 5, none⟩ = some (.int .i64 csl)) := show ∀ W, _ → _ from fun W h => ⟨h.row.cell rfl, h.row.cell rfl, h.row.cell rfl, h.row.cell rfl, h.row.cell rfl⟩
  obtain ⟨x1, x2, x3, x4, x5⟩ := HCL.out w h
  clear h hs hc hi hz0 hz1 hz2 hj hy0 hy1 hy2 hDe
  go_enter Tryz.func43, Tryz.ntmps43
  go_wp2_with fail
  refine Calls.mono (CD.out _) ?_
  rintro e w1 ⟨rfl, hb1⟩
  have B1 : Hid (Below w.heap.size w w1) := hb1
  clear hb1 x1 x2 x3 x4 x5 CD
  go_wp2
  go_loopw [4, 5, 14] (fun v u i wr => ∃ k : Nat, k ≤ D ∧ i = .int .i64 (k : Int) ∧ wr.ownsRow w.heap.size 9 1 v k (strs (lkSs A ⟨ck, cm, csh, cst, csl⟩ id n k)) ∧ wr.ownsRow w.heap.size 3 1 u k (zcs (lkEs A ⟨ck, cm, csh, cst, csl⟩ id n k)) ∧ Below w.heap.size w wr) (fun _ _ i _ => D - (RowKit.intOf i).toNat)
  case atStart => exact ⟨0, by omega, rfl, World.ownsRow_nil _ _ _ _, World.ownsRow_nil _ _ _ _, B1.out⟩
  case round =>
    obtain ⟨k, hk, rfl, ho1, ho2, hbel⟩ := hrel
    by_cases hlt : k < D
    case neg =>
      obtain rfl : k = D := by omega
      have F1 : Hid (wr.ownsRow w.heap.size 9 1 u4 k (strs (lkSs A ⟨ck, cm, csh, cst, csl⟩ id n k))) := ho1
      have F2 : Hid (wr.ownsRow w.heap.size 3 1 u5 k (zcs (lkEs A ⟨ck, cm, csh, cst, csl⟩ id n k))) := ho2
      have F3 : Hid (Below w.heap.size w wr) := hbel
      clear ho1 ho2 hbel
      go_wp2
      go_ret2
      exact ⟨_, _, rfl, by rw [← HDE.out]; exact F1.out, by rw [← HDE.out]; exact F2.out, F3.out⟩
    have O1 : Hid (wr.ownsRow w.heap.size 9 1 _ k (strs (lkSs A ⟨ck, cm, csh, cst, csl⟩ id n k))) := ho1
    have O2 : Hid (wr.ownsRow w.heap.size 3 1 _ k (zcs (lkEs A ⟨ck, cm, csh, cst, csl⟩ id n k))) := ho2
    have BW : Hid (Below w.heap.size w wr) := hbel
    have HW : Hid (IsW wr pv pa fp A ⟨ck, cm, csh, cst, csl⟩ id seq) := show IsW _ _ _ _ _ _ _ _ from H0.out.below hbel
    obtain ⟨x1, x2, x3, x4, x5⟩ := HCL.out wr HW.out
    clear ho1 ho2 hbel
    go_wp2_with fail
    refine Calls.mono (CS.out _) ?_
    rintro e w2 ⟨rfl, hb⟩
    have O1 : Hid (w2.ownsRow w.heap.size 9 1 _ k (strs (lkSs A ⟨ck, cm, csh, cst, csl⟩ id n k))) := own_kept O1.out (Fr.of_below (fp := []) hb) (by simp)
    have O2 : Hid (w2.ownsRow w.heap.size 3 1 _ k (zcs (lkEs A ⟨ck, cm, csh, cst, csl⟩ id n k))) := own_kept O2.out (Fr.of_below (fp := []) hb) (by simp)
    have BW2 : Hid (Below w.heap.size w w2) := below_step BW.out hb
    have HW2 : Hid (IsW w2 pv pa fp A ⟨ck, cm, csh, cst, csl⟩ id seq) := show IsW _ _ _ _ _ _ _ _ from HW.out.below hb
    clear hb x1 x2 x3 x4 x5 HW BW
    have C3 := show Hid (_) from CO.out w2 HW2.out (k : Int)
    have HNk := show Hid (_ → _) from HNO.out (k : Int)
    have HYk := show Hid (_ → _ → _) from HYE.out (k : Int)
    have HSk := show Hid (_ = _) from HSN.out k
    have HEk := show Hid (_ = _) from HEN.out k
    generalize vOk A id (k : Int) (Cfm.stripeN ⟨ck, cm, csh, cst, csl⟩ n) = OK at C3 HNk HYk
    generalize vBk A id (k : Int) (Cfm.stripeN ⟨ck, cm, csh, cst, csl⟩ n) = bb at C3 HNk HYk
    generalize lkS A ⟨ck, cm, csh, cst, csl⟩ id n (k : Int) = S at HNk HYk HSk
    generalize lkE A ⟨ck, cm, csh, cst, csl⟩ id n (k : Int) = E at HNk HYk HEk
    obtain ⟨b0, b1, b2, b3, b4⟩ := bb
    rw [bkV, bkC] at C3
    dsimp only at C3 HNk HYk
    go_wp2_with fail
    refine Calls.mono C3.out ?_
    rintro e w3 ⟨rfl, hb⟩
    have hb3 : Below w.heap.size w w3 := below_step BW2.out hb
    have O1 : Hid ((w3.alloc (.cells #[.int .i64 b0, .int .i64 b1, .int .i64 b2, .int .i64 b3, .string b4] 91)).ownsRow w.heap.size 9 1 _ k (strs (lkSs A ⟨ck, cm, csh, cst, csl⟩ id n k))) := World.ownsRow.alloc (own_kept O1.out (Fr.of_below (fp := []) hb) (by simp)) _
    have O2 : Hid ((w3.alloc (.cells #[.int .i64 b0, .int .i64 b1, .int .i64 b2, .int .i64 b3, .string b4] 91)).ownsRow w.heap.size 3 1 _ k (zcs (lkEs A ⟨ck, cm, csh, cst, csl⟩ id n k))) := World.ownsRow.alloc (own_kept O2.out (Fr.of_below (fp := []) hb) (by simp)) _
    have BW4 : Hid (Below w.heap.size w (w3.alloc (.cells #[.int .i64 b0, .int .i64 b1, .int .i64 b2, .int .i64 b3, .string b4] 91))) := hb3.alloc hb3.size _
    have HW4 : Hid (IsW (w3.alloc (.cells #[.int .i64 b0, .int .i64 b1, .int .i64 b2, .int .i64 b3, .string b4] 91)) pv pa fp A ⟨ck, cm, csh, cst, csl⟩ id seq) := show IsW _ _ _ _ _ _ _ _ from (HW2.out.below hb).below ((Below.refl _ _).alloc (Nat.le_refl _) _)
    have HR4 : Hid (Row (w3.alloc (.cells #[.int .i64 b0, .int .i64 b1, .int .i64 b2, .int .i64 b3, .string b4] 91)) w3.heap.size 91 #[.int .i64 b0, .int .i64 b1, .int .i64 b2, .int .i64 b3, .string b4]) := Row.new _ _ _
    obtain ⟨V, hV⟩ : ∃ V, V = w3.alloc (.cells #[.int .i64 b0, .int .i64 b1, .int .i64 b2, .int .i64 b3, .string b4] 91) := ⟨_, rfl⟩
    rw [← hV] at O1 O2 BW4 HW4 HR4
    obtain ⟨G, hG⟩ : ∃ G, G = w3.heap.size := ⟨_, rfl⟩
    have HGW : Hid (w.heap.size ≤ G) := show _ ≤ _ by rw [hG]; exact hb3.size
    have HGS : Hid (w3.heap.size = G) := hG.symm
    rw [← hG] at HR4
    obtain ⟨x1, x2, x3, x4, x5⟩ := HCL.out V HW4.out
    have y0 : V.cell? ⟨G, 0, none⟩ = some (.int .i64 b0) := HR4.out.cell rfl
    have y1 : V.cell? ⟨G, 1, none⟩ = some (.int .i64 b1) := HR4.out.cell rfl
    have y2 : V.cell? ⟨G, 2, none⟩ = some (.int .i64 b2) := HR4.out.cell rfl
    have y3 : V.cell? ⟨G, 3, none⟩ = some (.int .i64 b3) := HR4.out.cell rfl
    have y4 : V.cell? ⟨G, 4, none⟩ = some (.string b4) := HR4.out.cell rfl
    have hva : w3.alloc (.cells #[.int .i64 b0, .int .i64 b1, .int .i64 b2, .int .i64 b3, .string b4] 91) = V := hV.symm
    have hgs : w3.heap.size = G := hG.symm
    clear hb hb3 C3 HW2 BW2 hV hG
    cases OK with
    | false =>
      obtain ⟨eS, eE⟩ := HNk.out (.inl rfl)
      rw [eS] at HSk
      rw [eE] at HEk
      clear eS eE HNk HYk
      go_wp2
      go_quiet (fail)
      have HRD : Hid (Row (V.drewN nq) G 91 #[.int .i64 b0, .int .i64 b1, .int .i64 b2, .int .i64 b3, .string b4]) := HR4.out.kept ((Fr.refl [] _).drewN _) (by simp)
      obtain ⟨CSU, hCSU⟩ : ∃ x : Array Value, x = #[.int .i64 0, .int .i64 0, .int .i64 0, .int .i64 (-1), .string ⟨#[]⟩] := ⟨_, rfl⟩
      have RU : Hid (Row ((V.drewN nq).setRow G #[.int .i64 0, .int .i64 0, .int .i64 0, .int .i64 (-1), .string ⟨#[]⟩]) G 91 CSU) := show Row _ _ _ _ by rw [hCSU]; exact setRow_heap _ _ _ _ _ _ HRD.out
      have FU : Fr [G] V ((V.drewN nq).setRow G #[.int .i64 0, .int .i64 0, .int .i64 0, .int .i64 (-1), .string ⟨#[]⟩]) := ⟨rfl, rfl, rfl, by simp, fun i hi hn => (setRow_other (V.drewN nq) G i _ (fun e => hn (by simp [e])))⟩
      have O1U : Hid (((V.drewN nq).setRow G #[.int .i64 0, .int .i64 0, .int .i64 0, .int .i64 (-1), .string ⟨#[]⟩]).ownsRow w.heap.size 9 1 u4 k (strs (lkSs A ⟨ck, cm, csh, cst, csl⟩ id n k))) := show World.ownsRow _ _ _ _ _ _ _ from own_kept O1.out FU (fun q hq => by simp; rintro rfl; exact row_apart HR4.out O1.out (by decide) hq)
      have O2U : Hid (((V.drewN nq).setRow G #[.int .i64 0, .int .i64 0, .int .i64 0, .int .i64 (-1), .string ⟨#[]⟩]).ownsRow w.heap.size 3 1 u5 k (zcs (lkEs A ⟨ck, cm, csh, cst, csl⟩ id n k))) := show World.ownsRow _ _ _ _ _ _ _ from own_kept O2.out FU (fun q hq => by simp; rintro rfl; exact row_apart HR4.out O2.out (by decide) hq)
      have BU : Hid (Below w.heap.size w ((V.drewN nq).setRow G #[.int .i64 0, .int .i64 0, .int .i64 0, .int .i64 (-1), .string ⟨#[]⟩])) := below_setRow (below_drewN BW4.out _) HGW.out _
      have z4 : ((V.drewN nq).setRow G #[.int .i64 0, .int .i64 0, .int .i64 0, .int .i64 (-1), .string ⟨#[]⟩]).cell? ⟨G, 4, none⟩ = some (.string ⟨#[]⟩) := RU.out.cell (by rw [hCSU]; rfl)
      clear FU O1 O2 BW4 HW4 x1 x2 x3 x4 x5 y0 y1 y2 y3 y4
      have hUs := BU.out.size
      go_wp2_with (first | (refine wpList_store_row rfl 91 _ _ rfl G #[.int .i64 0, .int .i64 0, .int .i64 0, .int .i64 (-1), .string ⟨#[]⟩] rfl rfl 91 #[.int .i64 b0, .int .i64 b1, .int .i64 b2, .int .i64 b3, .string b4] HRD.out (by kernel_rfl) (by rfl) (bkC_one ⟨0, 0, 0, -1, ⟨#[]⟩⟩) ?_) | (at_builtin; go_must (refine wpList_append_own _ rfl _ _ 39 rfl w.heap.size 9 i0 (.string ByteArray.empty) 1 16 Tryz.underlying39 HI.out HZ0.out HZ1.out HZ2.out rfl (by decide) _ _ _ rfl (World.ownsRow.alloc O1U.out _) ⟨V.heap.size, 0, none⟩ 1 1 [.string ⟨#[]⟩] rfl rfl ?c1 ?c2 ?c3 ?c4 ?c5 ?_)))
      case c1 => first | exact cell_one_new _ _ _ | (rw [show V.heap.size = ((V.drewN nq).setRow G #[.int .i64 0, .int .i64 0, .int .i64 0, .int .i64 (-1), .string ⟨#[]⟩]).heap.size by simp]; exact cell_one_new _ _ _)
      case c2 => intro x hx; simp at hx; subst hx; rfl
      case c3 => unfold maxLen; omega
      case c4 => omega
      case c5 => simp at hUs ⊢; omega
      intro v1 U1 o1 g1 _
      have O1V : Hid (U1.ownsRow w.heap.size 9 1 v1 (k + 1) (strs (lkSs A ⟨ck, cm, csh, cst, csl⟩ id n (k + 1)))) := show World.ownsRow _ _ _ _ _ _ _ by rw [← HSk.out]; exact o1
      have O2V : Hid (U1.ownsRow w.heap.size 3 1 u5 k (zcs (lkEs A ⟨ck, cm, csh, cst, csl⟩ id n k))) := show World.ownsRow _ _ _ _ _ _ _ from own_beside (World.ownsRow.alloc O2U.out _) (World.ownsRow.alloc O1U.out _) (by decide) g1
      have RV : Hid (Row U1 G 91 CSU) := show Row _ _ _ _ from (RU.out.alloc _).grown g1 (fun e => row_apart RU.out O1U.out (by decide) (blk_own e.symm))
      have BV : Hid (Below w.heap.size w U1) := (BU.out.alloc BU.out.size _).grown g1 (by simp at hUs ⊢; omega) (fun g hg => (World.ownsRow.lt O1U.out g hg).1)
      have z3 : U1.cell? ⟨G, 3, none⟩ = some (.int .i64 (-1)) := RV.out.cell (by rw [hCSU]; rfl)
      have hVs := BV.out.size
      clear o1 g1 O1U O2U BU
      go_wp2_with (at_builtin; go_must (refine wpList_append_own _ rfl _ _ 47 rfl w.heap.size 3 j0 (.int .i64 0) 1 8 Tryz.underlying47 HJ.out HY0.out HY1.out HY2.out rfl (by decide) _ _ _ rfl (World.ownsRow.alloc O2V.out _) ⟨U1.heap.size, 0, none⟩ 1 1 [.int .i64 (-1)] rfl rfl ?c1 ?c2 ?c3 ?c4 ?c5 ?_))
      case c1 => exact cell_one_new _ _ _
      case c2 => intro x hx; simp at hx; subst hx; rfl
      case c3 => unfold maxLen; omega
      case c4 => omega
      case c5 => simp; omega
      intro v2 U2 o2 g2 _
      have O2W : Hid (U2.ownsRow w.heap.size 3 1 v2 (k + 1) (zcs (lkEs A ⟨ck, cm, csh, cst, csl⟩ id n (k + 1)))) := show World.ownsRow _ _ _ _ _ _ _ by rw [← HEk.out]; exact o2
      have O1W : Hid (U2.ownsRow w.heap.size 9 1 v1 (k + 1) (strs (lkSs A ⟨ck, cm, csh, cst, csl⟩ id n (k + 1)))) := show World.ownsRow _ _ _ _ _ _ _ from own_beside (World.ownsRow.alloc O1V.out _) (World.ownsRow.alloc O2V.out _) (by decide) g2
      have BX : Hid (Below w.heap.size w U2) := (BV.out.alloc BV.out.size _).grown g2 (by simp; omega) (fun g hg => (World.ownsRow.lt O2V.out g hg).1)
      clear o2 g2 O1V O2V BV
      go_wp2
      go_roundw
      case rel => exact ⟨k + 1, by omega, by go_num, O1W.out, O2W.out, BX.out⟩
      case measure => simp [RowKit.intOf]; omega
    | true =>
      by_cases hsz : (b4.size : Int) = csh
      case neg =>
        obtain ⟨eS, eE⟩ := HNk.out (.inr hsz)
        rw [eS] at HSk
        rw [eE] at HEk
        have hne : ((b4.size : Int) != csh) = true := by rw [bne_iff_ne]; exact hsz
        clear eS eE HNk HYk hsz
        go_wp2
        go_quiet (fail)
        have HRD : Hid (Row (V.drewN nq) G 91 #[.int .i64 b0, .int .i64 b1, .int .i64 b2, .int .i64 b3, .string b4]) := HR4.out.kept ((Fr.refl [] _).drewN _) (by simp)
        obtain ⟨CSU, hCSU⟩ : ∃ x : Array Value, x = #[.int .i64 0, .int .i64 0, .int .i64 0, .int .i64 (-1), .string ⟨#[]⟩] := ⟨_, rfl⟩
        have RU : Hid (Row ((V.drewN nq).setRow G #[.int .i64 0, .int .i64 0, .int .i64 0, .int .i64 (-1), .string ⟨#[]⟩]) G 91 CSU) := show Row _ _ _ _ by rw [hCSU]; exact setRow_heap _ _ _ _ _ _ HRD.out
        have FU : Fr [G] V ((V.drewN nq).setRow G #[.int .i64 0, .int .i64 0, .int .i64 0, .int .i64 (-1), .string ⟨#[]⟩]) := ⟨rfl, rfl, rfl, by simp, fun i hi hn => (setRow_other (V.drewN nq) G i _ (fun e => hn (by simp [e])))⟩
        have O1U : Hid (((V.drewN nq).setRow G #[.int .i64 0, .int .i64 0, .int .i64 0, .int .i64 (-1), .string ⟨#[]⟩]).ownsRow w.heap.size 9 1 u4 k (strs (lkSs A ⟨ck, cm, csh, cst, csl⟩ id n k))) := show World.ownsRow _ _ _ _ _ _ _ from own_kept O1.out FU (fun q hq => by simp; rintro rfl; exact row_apart HR4.out O1.out (by decide) hq)
        have O2U : Hid (((V.drewN nq).setRow G #[.int .i64 0, .int .i64 0, .int .i64 0, .int .i64 (-1), .string ⟨#[]⟩]).ownsRow w.heap.size 3 1 u5 k (zcs (lkEs A ⟨ck, cm, csh, cst, csl⟩ id n k))) := show World.ownsRow _ _ _ _ _ _ _ from own_kept O2.out FU (fun q hq => by simp; rintro rfl; exact row_apart HR4.out O2.out (by decide) hq)
        have BU : Hid (Below w.heap.size w ((V.drewN nq).setRow G #[.int .i64 0, .int .i64 0, .int .i64 0, .int .i64 (-1), .string ⟨#[]⟩])) := below_setRow (below_drewN BW4.out _) HGW.out _
        have z4 : ((V.drewN nq).setRow G #[.int .i64 0, .int .i64 0, .int .i64 0, .int .i64 (-1), .string ⟨#[]⟩]).cell? ⟨G, 4, none⟩ = some (.string ⟨#[]⟩) := RU.out.cell (by rw [hCSU]; rfl)
        clear FU O1 O2 BW4 HW4 x1 x2 x3 x4 x5 y0 y1 y2 y3 y4
        have hUs := BU.out.size
        go_wp2_with (first | (refine wpList_store_row rfl 91 _ _ rfl G #[.int .i64 0, .int .i64 0, .int .i64 0, .int .i64 (-1), .string ⟨#[]⟩] rfl rfl 91 #[.int .i64 b0, .int .i64 b1, .int .i64 b2, .int .i64 b3, .string b4] HRD.out (by kernel_rfl) (by rfl) (bkC_one ⟨0, 0, 0, -1, ⟨#[]⟩⟩) ?_) | (at_builtin; go_must (refine wpList_append_own _ rfl _ _ 39 rfl w.heap.size 9 i0 (.string ByteArray.empty) 1 16 Tryz.underlying39 HI.out HZ0.out HZ1.out HZ2.out rfl (by decide) _ _ _ rfl (World.ownsRow.alloc O1U.out _) ⟨V.heap.size, 0, none⟩ 1 1 [.string ⟨#[]⟩] rfl rfl ?c1 ?c2 ?c3 ?c4 ?c5 ?_)))
        case c1 => first | exact cell_one_new _ _ _ | (rw [show V.heap.size = ((V.drewN nq).setRow G #[.int .i64 0, .int .i64 0, .int .i64 0, .int .i64 (-1), .string ⟨#[]⟩]).heap.size by simp]; exact cell_one_new _ _ _)
        case c2 => intro x hx; simp at hx; subst hx; rfl
        case c3 => unfold maxLen; omega
        case c4 => omega
        case c5 => simp at hUs ⊢; omega
        intro v1 U1 o1 g1 _
        have O1V : Hid (U1.ownsRow w.heap.size 9 1 v1 (k + 1) (strs (lkSs A ⟨ck, cm, csh, cst, csl⟩ id n (k + 1)))) := show World.ownsRow _ _ _ _ _ _ _ by rw [← HSk.out]; exact o1
        have O2V : Hid (U1.ownsRow w.heap.size 3 1 u5 k (zcs (lkEs A ⟨ck, cm, csh, cst, csl⟩ id n k))) := show World.ownsRow _ _ _ _ _ _ _ from own_beside (World.ownsRow.alloc O2U.out _) (World.ownsRow.alloc O1U.out _) (by decide) g1
        have RV : Hid (Row U1 G 91 CSU) := show Row _ _ _ _ from (RU.out.alloc _).grown g1 (fun e => row_apart RU.out O1U.out (by decide) (blk_own e.symm))
        have BV : Hid (Below w.heap.size w U1) := (BU.out.alloc BU.out.size _).grown g1 (by simp at hUs ⊢; omega) (fun g hg => (World.ownsRow.lt O1U.out g hg).1)
        have z3 : U1.cell? ⟨G, 3, none⟩ = some (.int .i64 (-1)) := RV.out.cell (by rw [hCSU]; rfl)
        have hVs := BV.out.size
        clear o1 g1 O1U O2U BU
        go_wp2_with (at_builtin; go_must (refine wpList_append_own _ rfl _ _ 47 rfl w.heap.size 3 j0 (.int .i64 0) 1 8 Tryz.underlying47 HJ.out HY0.out HY1.out HY2.out rfl (by decide) _ _ _ rfl (World.ownsRow.alloc O2V.out _) ⟨U1.heap.size, 0, none⟩ 1 1 [.int .i64 (-1)] rfl rfl ?c1 ?c2 ?c3 ?c4 ?c5 ?_))
        case c1 => exact cell_one_new _ _ _
        case c2 => intro x hx; simp at hx; subst hx; rfl
        case c3 => unfold maxLen; omega
        case c4 => omega
        case c5 => simp; omega
        intro v2 U2 o2 g2 _
        have O2W : Hid (U2.ownsRow w.heap.size 3 1 v2 (k + 1) (zcs (lkEs A ⟨ck, cm, csh, cst, csl⟩ id n (k + 1)))) := show World.ownsRow _ _ _ _ _ _ _ by rw [← HEk.out]; exact o2
        have O1W : Hid (U2.ownsRow w.heap.size 9 1 v1 (k + 1) (strs (lkSs A ⟨ck, cm, csh, cst, csl⟩ id n (k + 1)))) := show World.ownsRow _ _ _ _ _ _ _ from own_beside (World.ownsRow.alloc O1V.out _) (World.ownsRow.alloc O2V.out _) (by decide) g2
        have BX : Hid (Below w.heap.size w U2) := (BV.out.alloc BV.out.size _).grown g2 (by simp; omega) (fun g hg => (World.ownsRow.lt O2V.out g hg).1)
        clear o2 g2 O1V O2V BV
        go_wp2
        go_roundw
        case rel => exact ⟨k + 1, by omega, by go_num, O1W.out, O2W.out, BX.out⟩
        case measure => simp [RowKit.intOf]; omega
      obtain ⟨eS, eE⟩ := HYk.out rfl hsz
      rw [eS] at HSk
      rw [eE] at HEk
      have hne : ((b4.size : Int) != csh) = false := by rw [hsz]; simp
      clear eS eE HNk HYk hsz
      go_wp2
      go_quiet (fail)
      obtain ⟨CSU, hCSU⟩ : ∃ x : Array Value, x = #[.int .i64 b0, .int .i64 b1, .int .i64 b2, .int .i64 b3, .string b4] := ⟨_, rfl⟩
      obtain ⟨U, hU⟩ : ∃ U, U = V.drewN nq := ⟨_, rfl⟩
      have RU : Hid (Row U G 91 CSU) := show Row _ _ _ _ by rw [hU, hCSU]; exact HR4.out.kept ((Fr.refl [] _).drewN _) (by simp)
      have O1U : Hid (U.ownsRow w.heap.size 9 1 u4 k (strs (lkSs A ⟨ck, cm, csh, cst, csl⟩ id n k))) := show World.ownsRow _ _ _ _ _ _ _ by rw [hU]; exact own_kept O1.out ((Fr.refl [] _).drewN _) (by simp)
      have O2U : Hid (U.ownsRow w.heap.size 3 1 u5 k (zcs (lkEs A ⟨ck, cm, csh, cst, csl⟩ id n k))) := show World.ownsRow _ _ _ _ _ _ _ by rw [hU]; exact own_kept O2.out ((Fr.refl [] _).drewN _) (by simp)
      have BU : Hid (Below w.heap.size w U) := show Below _ _ _ by rw [hU]; exact below_drewN BW4.out _
      have z4 : U.cell? ⟨G, 4, none⟩ = some (.string b4) := RU.out.cell (by rw [hCSU]; rfl)
      rw [← hU]
      clear hU O1 O2 BW4 HW4 x1 x2 x3 x4 x5 y0 y1 y2 y3 y4
      have hUs := BU.out.size
      go_wp2_with (at_builtin; go_must (refine wpList_append_own _ rfl _ _ 39 rfl w.heap.size 9 i0 (.string ByteArray.empty) 1 16 Tryz.underlying39 HI.out HZ0.out HZ1.out HZ2.out rfl (by decide) _ _ _ rfl (World.ownsRow.alloc O1U.out _) ⟨U.heap.size, 0, none⟩ 1 1 [.string b4] rfl rfl ?c1 ?c2 ?c3 ?c4 ?c5 ?_))
      case c1 => first | exact cell_one_new _ _ _ | (rw [show V.heap.size = U.heap.size by simp]; exact cell_one_new _ _ _)
      case c2 => intro x hx; simp at hx; subst hx; rfl
      case c3 => unfold maxLen; omega
      case c4 => omega
      case c5 => simp at hUs ⊢; omega
      intro v1 U1 o1 g1 _
      have O1V : Hid (U1.ownsRow w.heap.size 9 1 v1 (k + 1) (strs (lkSs A ⟨ck, cm, csh, cst, csl⟩ id n (k + 1)))) := show World.ownsRow _ _ _ _ _ _ _ by rw [← HSk.out]; exact o1
      have O2V : Hid (U1.ownsRow w.heap.size 3 1 u5 k (zcs (lkEs A ⟨ck, cm, csh, cst, csl⟩ id n k))) := show World.ownsRow _ _ _ _ _ _ _ from own_beside (World.ownsRow.alloc O2U.out _) (World.ownsRow.alloc O1U.out _) (by decide) g1
      have RV : Hid (Row U1 G 91 CSU) := show Row _ _ _ _ from (RU.out.alloc _).grown g1 (fun e => row_apart RU.out O1U.out (by decide) (blk_own e.symm))
      have BV : Hid (Below w.heap.size w U1) := (BU.out.alloc BU.out.size _).grown g1 (by simp at hUs ⊢; omega) (fun g hg => (World.ownsRow.lt O1U.out g hg).1)
      have z3 : U1.cell? ⟨G, 3, none⟩ = some (.int .i64 b3) := RV.out.cell (by rw [hCSU]; rfl)
      have hVs := BV.out.size
      clear o1 g1 O1U O2U BU
      go_wp2_with (at_builtin; go_must (refine wpList_append_own _ rfl _ _ 47 rfl w.heap.size 3 j0 (.int .i64 0) 1 8 Tryz.underlying47 HJ.out HY0.out HY1.out HY2.out rfl (by decide) _ _ _ rfl (World.ownsRow.alloc O2V.out _) ⟨U1.heap.size, 0, none⟩ 1 1 [.int .i64 b3] rfl rfl ?c1 ?c2 ?c3 ?c4 ?c5 ?_))
      case c1 => exact cell_one_new _ _ _
      case c2 => intro x hx; simp at hx; subst hx; rfl
      case c3 => unfold maxLen; omega
      case c4 => omega
      case c5 => simp; omega
      intro v2 U2 o2 g2 _
      have O2W : Hid (U2.ownsRow w.heap.size 3 1 v2 (k + 1) (zcs (lkEs A ⟨ck, cm, csh, cst, csl⟩ id n (k + 1)))) := show World.ownsRow _ _ _ _ _ _ _ by rw [← HEk.out]; exact o2
      have O1W : Hid (U2.ownsRow w.heap.size 9 1 v1 (k + 1) (strs (lkSs A ⟨ck, cm, csh, cst, csl⟩ id n (k + 1)))) := show World.ownsRow _ _ _ _ _ _ _ from own_beside (World.ownsRow.alloc O1V.out _) (World.ownsRow.alloc O2V.out _) (by decide) g2
      have BX : Hid (Below w.heap.size w U2) := (BV.out.alloc BV.out.size _).grown g2 (by simp; omega) (fun g hg => (World.ownsRow.lt O2V.out g hg).1)
      clear o2 g2 O1V O2V BV
      go_wp2
      go_roundw
      case rel => exact ⟨k + 1, by omega, by go_num, O1W.out, O2W.out, BX.out⟩
      case measure => simp [RowKit.intOf]; omega
end Go.Proofs.YtbmjcnmgignaoaaGreatDoor

/- What working and journal return. -/
namespace Go.Proofs.YtbmjcnmgignaoaaGreatDoor
open Go.RowKit Vecm Opened Wirem Txt Frm Diskm Arym Volm
open Blkm (Bk bk0 owE owB)
open Cfm (Cf)
open Crcm (bys)
set_option linter.unusedVariables false

def ZsP (w : World) (l : List Int) (e : Ending) (w' : World) : Prop := ∃ v, e = .returned v ∧ w'.ownsRow w.heap.size 3 1 v l.length (zcs l) ∧ Below w.heap.size w w'

set_option maxRecDepth 100000 in
set_option maxHeartbeats 2000000 in
theorem working_any {w : World} {pv pa : Nat} {fp : List Nat} {A : Ar} {c : Cf} {id seq : Int} (h : IsW w pv pa fp A c id seq) (hc : Fine c) :
    Calls Tryz.prog 18 #[.pointer (some ⟨pv, 0, none⟩)] w (ZsP w (wrk A (dsN c))) := by
  obtain ⟨j0, hj, hy0, hy1, hy2⟩ := vinfo (i := 3) (z := .int .i64 0) (a := 1) (b := 8) (by kernel_rfl)
  have HJ : Hid (_) := hj
  have HY0 : Hid (_) := hy0
  have HY1 : Hid (_) := hy1
  have HY2 : Hid (_) := hy2
  have H0 : Hid (IsW w pv pa fp A c id seq) := h
  have CD : Hid (∀ W, Calls Tryz.prog 34 #[.agg (cfC c)] W fun e w' => e = .returned (.int .i64 (dsN c : Int)) ∧ Below W.heap.size W w') := show ∀ W, _ from fun W => by rw [← hc.disks]; exact disks_any c W
  have CA : Hid (∀ W, IsW W pv pa fp A c id seq → ∀ d : Int, Calls Tryz.prog 47 #[.pointer (some ⟨pa, 0, none⟩), .int .i64 d] W fun e w' => e = .returned (.bool (aAl A d)) ∧ w' = W) := show ∀ W, _ → ∀ d, _ from fun W hW d => aalive_any hW.arr d
  have HS : Hid (∀ k, wrk A (k + 1) = wrk A k ++ (if aAl A (k : Int) = true then [(k : Int)] else [])) := show ∀ k, _ from wrk_succ A
  have HLN : Hid (∀ k, (wrk A k).length ≤ k) := show ∀ k, _ from wrk_len A
  have hD : dsN c ≤ 255 := by unfold dsN; have := hc.km; omega
  obtain ⟨D, hDe⟩ : ∃ D, D = dsN c := ⟨_, rfl⟩
  rw [← hDe] at CD hD ⊢
  obtain ⟨ck, cm, csh, cst, csl⟩ := c
  rw [cfC] at CD
  dsimp only at CD
  have x0 : w.cell? ⟨pv, 0, none⟩ = some (.pointer (some ⟨pa, 0, none⟩)) := h.row.cell rfl
  have x1 : w.cell? ⟨pv, 1, none⟩ = some (.int .i64 ck) := h.row.cell rfl
  have x2 : w.cell? ⟨pv, 2, none⟩ = some (.int .i64 cm) := h.row.cell rfl
  have x3 : w.cell? ⟨pv, 3, none⟩ = some (.int .i64 csh) := h.row.cell rfl
  have x4 : w.cell? ⟨pv, 4, none⟩ = some (.int .i64 cst) := h.row.cell rfl
  have x5 : w.cell? ⟨pv, 5, none⟩ = some (.int .i64 csl) := h.row.cell rfl
  clear h hc hj hy0 hy1 hy2 hDe
  go_enter Tryz.func18, Tryz.ntmps18
  go_wp2_with fail
  refine Calls.mono (CD.out _) ?_
  rintro e w1 ⟨rfl, hb1⟩
  have B1 : Hid (Below w.heap.size w w1) := hb1
  clear hb1 x0 x1 x2 x3 x4 x5 CD
  go_wp2
  go_loopw [3, 10] (fun v i wr => ∃ k : Nat, k ≤ D ∧ i = .int .i64 (k : Int) ∧ wr.ownsRow w.heap.size 3 1 v (wrk A k).length (zcs (wrk A k)) ∧ Below w.heap.size w wr) (fun _ i _ => D - (RowKit.intOf i).toNat)
  case atStart => exact ⟨0, by omega, rfl, World.ownsRow_nil _ _ _ _, B1.out⟩
  case round =>
    obtain ⟨k, hk, rfl, ho, hbel⟩ := hrel
    have O1 : Hid (wr.ownsRow w.heap.size 3 1 u3 (wrk A k).length (zcs (wrk A k))) := ho
    have BW : Hid (Below w.heap.size w wr) := hbel
    have HW : Hid (IsW wr pv pa fp A ⟨ck, cm, csh, cst, csl⟩ id seq) := show IsW _ _ _ _ _ _ _ _ from H0.out.below hbel
    by_cases hlt : k < D
    case neg =>
      obtain rfl : k = D := by omega
      clear ho hbel
      go_wp2
      go_ret
      exact ⟨_, rfl, O1.out, BW.out⟩
    have x0 : wr.cell? ⟨pv, 0, none⟩ = some (.pointer (some ⟨pa, 0, none⟩)) := HW.out.row.cell rfl
    have C1 := show Hid (_) from CA.out wr HW.out (k : Int)
    have HSk := show Hid (_ = _) from HS.out k
    have hln := HLN.out k
    clear ho hbel
    cases hal : aAl A (k : Int) with
    | false =>
      rw [hal] at C1 HSk
      have HE : Hid (wrk A (k + 1) = wrk A k) := show _ = _ by have := HSk.out; simpa using this
      clear hal HSk
      go_wp2_with fail
      refine same C1.out ?_
      go_wp2
      go_roundw
      case rel => exact ⟨k + 1, by omega, by go_num, by rw [HE.out]; exact O1.out, BW.out⟩
      case measure => simp [RowKit.intOf]; omega
    | true =>
      rw [hal] at C1 HSk
      have HE : Hid (wrk A (k + 1) = wrk A k ++ [(k : Int)]) := show _ = _ by have := HSk.out; simpa using this
      have hBs := BW.out.size
      obtain ⟨M, hM⟩ : ∃ M, M = (wrk A k).length := ⟨_, rfl⟩
      have HM : Hid (M = (wrk A k).length) := hM
      rw [← hM] at O1 hln
      clear hal HSk hM
      go_wp2_with (first | (go_at_call 47; refine same C1.out ?_) | (at_builtin; go_must (refine wpList_append_own _ rfl _ _ 47 rfl w.heap.size 3 j0 (.int .i64 0) 1 8 Tryz.underlying47 HJ.out HY0.out HY1.out HY2.out rfl (by decide) _ _ _ rfl (World.ownsRow.alloc O1.out _) ⟨wr.heap.size, 0, none⟩ 1 1 [.int .i64 (k : Int)] rfl rfl ?c1 ?c2 ?c3 ?c4 ?c5 ?_)))
      case c1 => exact cell_one_new _ _ _
      case c2 => intro x hx; simp at hx; subst hx; rfl
      case c3 => unfold maxLen; omega
      case c4 => omega
      case c5 => simp; omega
      intro v1 U1 o1 g1 _
      have O2 : Hid (U1.ownsRow w.heap.size 3 1 v1 (wrk A (k + 1)).length (zcs (wrk A (k + 1)))) := show World.ownsRow _ _ _ _ _ _ _ by
        rw [HE.out, ← zcs_snoc, List.length_append, ← HM.out]; exact o1
      have B2 : Hid (Below w.heap.size w U1) := (BW.out.alloc BW.out.size _).grown g1 (by simp; omega) (fun g hg => (World.ownsRow.lt O1.out g hg).1)
      clear o1 g1
      go_wp2
      go_roundw
      case rel => exact ⟨k + 1, by omega, by go_num, O2.out, B2.out⟩
      case measure => simp [RowKit.intOf]; omega

set_option maxRecDepth 100000 in
theorem jclo_any {w : World} {pv pa B : Nat} {fp : List Nat} {A : Ar} {c : Cf} {id seq : Int} (h : IsW w pv pa fp A c id seq) (hB : w.cell? ⟨B, 0, none⟩ = some (.pointer (some ⟨pv, 0, none⟩))) (d : Int) :
    Calls Tryz.prog 78 #[.int .i64 d, .pointer (some ⟨B, 0, none⟩)] w fun e w' => e = .returned (.bool (decide (c.m < d))) ∧ Below w.heap.size w w' := by
  have x2 : w.cell? ⟨pv, 2, none⟩ = some (.int .i64 c.m) := h.row.cell rfl
  obtain ⟨ck, cm, csh, cst, csl⟩ := c
  dsimp only at x2 ⊢
  have HB : Hid (∀ q, Below w.heap.size w (w.drewN q)) := show ∀ q, _ from fun q => below_drewN (Below.refl _ _) q
  clear h
  go_enter Tryz.func78, Tryz.ntmps78
  go_wp2
  (try go_quiet (fail))
  (try go_wp2)
  go_ret
  exact ⟨rfl, by first | exact Below.refl _ _ | exact HB.out _⟩

set_option maxRecDepth 100000 in
set_option maxHeartbeats 1000000 in
theorem journal_any {w : World} {pv pa : Nat} {fp : List Nat} {A : Ar} {c : Cf} {id seq : Int} (h : IsW w pv pa fp A c id seq) (hc : Fine c) :
    Calls Tryz.prog 38 #[.pointer (some ⟨pv, 0, none⟩)] w (ZsP w (jnl A (dsN c) c.m)) := by
  have hmf : ∀ (fn : Fn) (first cap : Array Value) (w : World), (Instr.makeFunc fn first cap).run Tryz.prog w = .ok (.func fn first cap) w := fun _ _ _ _ => rfl
  have HB0 : Hid (Below w.heap.size w (w.alloc (.cells #[.pointer (some ⟨pv, 0, none⟩)] 22))) := (Below.refl _ _).alloc (Nat.le_refl _) _
  have HR0 : Hid (Row (w.alloc (.cells #[.pointer (some ⟨pv, 0, none⟩)] 22)) w.heap.size 22 #[.pointer (some ⟨pv, 0, none⟩)]) := Row.new _ _ _
  have H1 : Hid (IsW (w.alloc (.cells #[.pointer (some ⟨pv, 0, none⟩)] 22)) pv pa fp A c id seq) := show IsW _ _ _ _ _ _ _ _ from h.below HB0.out
  have C1 : Hid (_) := working_any H1.out hc
  have HN : Hid ((wrk A (dsN c)).length ≤ 1000000) := show _ ≤ _ by have := wrk_len A (dsN c); have : dsN c ≤ 255 := (by unfold dsN; have := hc.km; omega); omega
  have HJE : Hid (dlt (wrk A (dsN c)) (fun d => decide (c.m < d)) = jnl A (dsN c) c.m) := show _ = _ from rfl
  have c0 : (w.alloc (.cells #[.pointer (some ⟨pv, 0, none⟩)] 22)).cell? ⟨w.heap.size, 0, none⟩ = some (.pointer (some ⟨pv, 0, none⟩)) := HR0.out.cell rfl
  clear h hc
  go_enter Tryz.func38, Tryz.ntmps38
  go_wp2_with fail
  refine Calls.mono C1.out ?_
  rintro e w1 ⟨v, rfl, o1, b1⟩
  have hW0 : (w.alloc (.cells #[.pointer (some ⟨pv, 0, none⟩)] 22)).heap.size = w.heap.size + 1 := by simp
  have C2 : Hid (_) := jndel_any v (wrk A (dsN c)) (fun d => decide (c.m < d)) _ w.heap.size w1 o1 HN.out (fun W hW d => by
    have hb := b1.trans (hW.below (own_base o1) b1.size)
    exact jclo_any (H1.out.below hb) ((HR0.out.kept (Fr.of_below (fp := []) hb) (by simp)).cell rfl) d)
  have HF : Hid (∀ v' w', w'.ownsRow (w.alloc (.cells #[.pointer (some ⟨pv, 0, none⟩)] 22)).heap.size 3 1 v' (jnl A (dsN c) c.m).length (zcs (jnl A (dsN c) c.m)) → Fr (blk v) w1 w' → ZsP w (jnl A (dsN c) c.m) (.returned v') w') := show ∀ v' w', _ → _ → _ from fun v' w' o hf => by
    refine ⟨v', rfl, Go.Joins.ownsRow_le o (by simp), ?_⟩
    have hb := b1.trans (hf.below (own_base o1) b1.size)
    exact below_step HB0.out hb
  unfold ZDel at C2
  rw [HJE.out] at C2
  clear o1 b1 c0 C1 hW0
  go_wp2_with fail
  refine Calls.mono C2.out ?_
  rintro e w2 ⟨v', rfl, o2, f2, _⟩
  have HE := show Hid (_) from HF.out v' w2 o2 f2
  clear o2 f2
  go_wp2
  go_ret
  exact HE.out
end Go.Proofs.YtbmjcnmgignaoaaGreatDoor

/- Intents' records as plain mathematics: what Write and Read answer, and what follows. -/
namespace Intm
open Crcm Txt Wirem Blkm

structure It where
  seq : Int
  stripe : Int
  text : ByteArray

def it0 : It := ⟨0, 0, ⟨#[]⟩⟩
def mrk : ByteArray := ⟨#[73, 78, 84]⟩
def i1 (i : It) : ByteArray × Int := stp (mrk, 0) (putS i.seq 7) (putE i.seq 7)
def i2 (i : It) : ByteArray × Int := stp (i1 i) (putS i.stripe 2) (putE i.stripe 2)
def i3 (i : It) : ByteArray × Int := stp (i2 i) (textS i.text) (textE i.text)
def wrE (i : It) : Int := (i3 i).2
def wrS (i : It) : ByteArray := if wrE i = 0 then (i3 i).1 else ⟨#[]⟩
def FitsI (i : It) : Prop := putE i.seq 7 = 0 ∧ putE i.stripe 2 = 0 ∧ i.text.size < 65536
theorem wr_fits {i : It} (h : wrE i = 0) : FitsI i ∧ wrS i = mrk ++ (putS i.seq 7 ++ (putS i.stripe 2 ++ textS i.text)) := by
  have hw : wrS i = (i3 i).1 := if_pos h
  obtain ⟨h2, e3, s3⟩ := stp_zero h
  obtain ⟨h1, e2, s2⟩ := stp_zero h2
  obtain ⟨h0, e1, s1⟩ := stp_zero h1
  refine ⟨⟨e1, e2, textE_iff.1 e3⟩, ?_⟩
  rw [hw, show (i3 i).1 = _ from s3, show (i2 i).1 = _ from s2, show (i1 i).1 = _ from s1]
  simp only [ByteArray.append_assoc]
theorem i1_yes {i : It} (h : putE i.seq 7 = 0) : i1 i = (mrk ++ putS i.seq 7, 0) := by rw [i1, stp_yes _ _ rfl, h]
theorem i2_yes {i : It} (h : putE i.seq 7 = 0) (k : putE i.stripe 2 = 0) : i2 i = (mrk ++ putS i.seq 7 ++ putS i.stripe 2, 0) := by rw [i2, i1_yes h, stp_yes _ _ rfl, k]
theorem fits_wr {i : It} (h : FitsI i) : wrE i = 0 := by
  rw [wrE, i3, i2_yes h.1 h.2.1, stp_yes _ _ rfl]
  exact textE_iff.2 h.2.2
theorem wrS_yes {i : It} (h : FitsI i) : wrS i = mrk ++ (putS i.seq 7 ++ (putS i.stripe 2 ++ textS i.text)) := (wr_fits (fits_wr h)).2
theorem wrS_no {i : It} (h : wrE i ≠ 0) : wrS i = ⟨#[]⟩ := if_neg h
theorem i1_size (i : It) : (i1 i).1.size ≤ 10 := by
  rw [i1, stp_yes _ _ rfl]
  show (mrk ++ putS i.seq 7).size ≤ 10
  rw [ByteArray.size_append]
  have := putS_size i.seq 7 (by omega)
  have : mrk.size = 3 := rfl
  omega
theorem i2_size (i : It) : (i2 i).1.size ≤ 17 := by
  have h := i1_size i
  rw [i2]
  by_cases c : (i1 i).2 = 0
  · rw [stp_yes _ _ c, ByteArray.size_append]
    have := putS_size i.stripe 2 (by omega)
    omega
  · rw [stp_no _ _ c]; omega
theorem wrS_size {i : It} (h : FitsI i) : (wrS i).size = i.text.size + 14 := by
  have z1 := put_size h.1
  have z2 := put_size h.2.1
  have z3 : (textS i.text).size = i.text.size + 2 := by rw [textS, if_pos h.2.2, ByteArray.size_append, txt_size, le_length]; omega
  have z0 : mrk.size = 3 := rfl
  rw [wrS_yes h]
  simp only [ByteArray.size_append]
  omega
def mrkB (s : ByteArray) : Bool := (bys (s.extract 0 3) == bys mrk)
theorem mrkB_iff {s : ByteArray} : mrkB s = true ↔ s.extract 0 3 = mrk := by
  rw [mrkB, beq_iff_eq]; exact ⟨bys_inj, fun h => by rw [h]⟩
theorem mrkB_short {s : ByteArray} (h : s.size < 3) : mrkB s = false := by
  rw [← Bool.not_eq_true]
  intro c
  have := congrArg ByteArray.size (mrkB_iff.1 c)
  rw [ByteArray.size_extract] at this
  have hz : mrk.size = 3 := rfl
  omega
def trm (s : ByteArray) : ByteArray := if mrkB s = true then s.extract 3 s.size else s
def c1 (s : ByteArray) : ByteArray := cutS (trm s) 7
def c2 (s : ByteArray) : ByteArray := cutS (c1 s) 2
def rdR (s : ByteArray) : It := ⟨cutN (trm s) 7, cutN (c1 s) 2, takeS (c2 s)⟩
theorem rdR_seq (s : ByteArray) : (rdR s).seq = cutN (trm s) 7 := by rw [rdR]
theorem rdR_stripe (s : ByteArray) : (rdR s).stripe = cutN (c1 s) 2 := by rw [rdR]
theorem rdR_text (s : ByteArray) : (rdR s).text = takeS (c2 s) := by rw [rdR]
theorem c1_eq (s : ByteArray) : cutS (trm s) 7 = c1 s := by rw [c1]
theorem c2_eq (s : ByteArray) : cutS (c1 s) 2 = c2 s := by rw [c2]
def okI (s : ByteArray) : Bool := decide (wrE (rdR s) = 0) && (bys (wrS (rdR s)) == bys s)
theorem okI_iff {s : ByteArray} : okI s = true ↔ wrE (rdR s) = 0 ∧ wrS (rdR s) = s := by
  rw [okI, Bool.and_eq_true, decide_eq_true_eq, beq_iff_eq]
  exact ⟨fun h => ⟨h.1, bys_inj h.2⟩, fun h => ⟨h.1, by rw [h.2]⟩⟩
def rdE (s : ByteArray) : Int := if okI s = true then 0 else 5
def rdI (s : ByteArray) : It := if okI s = true then rdR s else it0
theorem rdE_yes {s : ByteArray} (h : okI s = true) : rdE s = 0 := if_pos h
theorem rdE_no {s : ByteArray} (h : ¬ okI s = true) : rdE s = 5 := if_neg h
theorem rdI_yes {s : ByteArray} (h : okI s = true) : rdI s = rdR s := if_pos h
theorem rdI_no {s : ByteArray} (h : ¬ okI s = true) : rdI s = it0 := if_neg h
theorem rdE_zero {s : ByteArray} : rdE s = 0 ↔ okI s = true := by
  by_cases c : okI s = true
  · rw [rdE_yes c]; exact ⟨fun _ => c, fun _ => rfl⟩
  · rw [rdE_no c]; exact ⟨fun (e : (5 : Int) = 0) => by omega, fun e => absurd e c⟩

theorem nil_right (s : ByteArray) : s ++ ⟨#[]⟩ = s := by
  refine bys_inj ?_
  rw [bys_append, bys_nil, List.append_nil]
/-- What stands behind a record is of no moment to its fields. -/
theorem rd_more {i : It} (h : FitsI i) (m : ByteArray) : mrkB (wrS i ++ m) = true ∧ rdR (wrS i ++ m) = i ∧ takeE (c2 (wrS i ++ m)) = 0 ∧ takeR (c2 (wrS i ++ m)) = m := by
  have hm : wrS i ++ m = mrk ++ (putS i.seq 7 ++ (putS i.stripe 2 ++ (textS i.text ++ m))) := by
    rw [wrS_yes h]; simp only [ByteArray.append_assoc]
  have hb : mrkB (wrS i ++ m) = true := mrkB_iff.2 (by rw [hm]; exact join_to _ _ rfl)
  have ht : trm (wrS i ++ m) = putS i.seq 7 ++ (putS i.stripe 2 ++ (textS i.text ++ m)) := by
    rw [trm, if_pos hb, hm]; exact join_from _ _ rfl
  have h1 := put_cut i.seq 7 (putS i.stripe 2 ++ (textS i.text ++ m)) h.1
  have h2 := put_cut i.stripe 2 (textS i.text ++ m) h.2.1
  have h3 := text_take i.text m h.2.2
  have e1 : c1 (wrS i ++ m) = putS i.stripe 2 ++ (textS i.text ++ m) := by rw [c1, ht, h1.2.2]
  have e2 : c2 (wrS i ++ m) = textS i.text ++ m := by rw [c2, e1, h2.2.2]
  refine ⟨hb, ?_, by rw [e2]; exact h3.1, by rw [e2]; exact h3.2.2⟩
  rw [rdR, ht, e1, e2, h1.2.1, h2.2.1, h3.2.1]
theorem wr_ok {i : It} (h : FitsI i) : okI (wrS i) = true := by
  have := (rd_more h ⟨#[]⟩).2.1
  rw [nil_right] at this
  exact okI_iff.2 (by rw [this]; exact ⟨fits_wr h, rfl⟩)
theorem wr_rd {i : It} (h : FitsI i) : rdE (wrS i) = 0 ∧ rdI (wrS i) = i := by
  have := (rd_more h ⟨#[]⟩).2.1
  rw [nil_right] at this
  exact ⟨rdE_yes (wr_ok h), by rw [rdI_yes (wr_ok h), this]⟩
theorem rd_wr {s : ByteArray} (h : rdE s = 0) : FitsI (rdI s) ∧ wrE (rdI s) = 0 ∧ wrS (rdI s) = s := by
  have ho := rdE_zero.1 h
  have := okI_iff.1 ho
  rw [rdI_yes ho]
  exact ⟨(wr_fits this.1).1, this⟩
theorem cutN_bound (r : ByteArray) (k : Int) : cutN r k ≤ 72057594037927936 := by
  by_cases h : cutE r k = 0
  · obtain ⟨b, rfl, h1, h2, h3⟩ := cutE_zero h
    rw [cutN_yes h1 h2 h3]
    have := vl_le_max ((bys r).take b) (small_take (bys_small r) b) b (by rw [List.length_take]; omega) h2
    omega
  · rw [cutN_no h]; omega
theorem cutS_small (r : ByteArray) (k : Int) : (cutS r k).size ≤ r.size := by
  rw [cutS]
  split
  · rw [ByteArray.size_extract]; omega
  · exact Nat.zero_le _
theorem takeS_small (r : ByteArray) : (takeS r).size ≤ r.size := by
  rw [takeS]
  split
  · rw [ByteArray.size_extract, ByteArray.size_extract]; omega
  · exact Nat.zero_le _
theorem trm_small (s : ByteArray) : (trm s).size ≤ s.size := by
  rw [trm]
  split
  · rw [ByteArray.size_extract]; omega
  · exact Nat.le_refl _
theorem c2_small (s : ByteArray) : (c2 s).size ≤ s.size := by
  have h1 := trm_small s
  have h2 := cutS_small (trm s) 7
  have h3 := cutS_small (c1 s) 2
  rw [c2]; rw [c1] at h3 ⊢; omega
theorem c1_small (s : ByteArray) : (c1 s).size ≤ s.size := by
  have h1 := trm_small s
  have h2 := cutS_small (trm s) 7
  rw [c1]; omega
theorem rdR_small (s : ByteArray) : (rdR s).seq ≤ 72057594037927936 ∧ (rdR s).stripe ≤ 72057594037927936 ∧ (rdR s).text.size ≤ s.size :=
by
  have r1 : (rdR s).seq = cutN (trm s) 7 := by rw [rdR]
  have r2 : (rdR s).stripe = cutN (c1 s) 2 := by rw [rdR]
  have r3 : (rdR s).text = takeS (c2 s) := by rw [rdR]
  rw [r1, r2, r3]
  exact ⟨cutN_bound _ _, cutN_bound _ _, Nat.le_trans (takeS_small _) (c2_small s)⟩
end Intm

/- Sectors, cell by cell. -/
namespace Go.Proofs.YtbmjcnmgignaoaaGreatDoor
open Go.RowKit Frm Intm Opened
set_option linter.unusedVariables false

/-- The cells of what has two numbers and a text each. -/
def vls (l : List It) : List Value := l.flatMap fun x => [.int .i64 x.seq, .int .i64 x.stripe, .string x.text]
theorem vls_get : ∀ (l : List It) (i : Nat), i < l.length → (vls l)[i * 3]? = some (.int .i64 (l.getD i it0).seq) ∧ (vls l)[i * 3 + 1]? = some (.int .i64 (l.getD i it0).stripe) ∧ (vls l)[i * 3 + 2]? = some (.string (l.getD i it0).text)
  | [], _, h => by simp at h
  | p :: l, 0, _ => ⟨rfl, rfl, rfl⟩
  | p :: l, i + 1, h => by
    have ih := vls_get l i (by simpa using h)
    rw [show vls (p :: l) = .int .i64 p.seq :: .int .i64 p.stripe :: .string p.text :: vls l from rfl, show (i + 1) * 3 = i * 3 + 1 + 1 + 1 by omega]
    simp only [List.getElem?_cons_succ, List.getD_cons_succ]
    exact ih
theorem vls_snoc (l : List It) (q : It) : vls l ++ [.int .i64 q.seq, .int .i64 q.stripe, .string q.text] = vls (l ++ [q]) := by simp [vls]
theorem vcell_three (w : World) (T : TypeId) (a b c : Value) : ∀ (j : Nat) (u : Value), [a, b, c][j]? = some u → (w.alloc (.cells #[a, b, c] T)).cell? ((⟨w.heap.size, 0, none⟩ : Addr).add j) = some u := by
  intro j u hj
  rw [add_plain rfl, Nat.zero_add]
  have hr := Row.new w T #[a, b, c]
  rcases j with _ | _ | _ | j
  · cases hj; exact hr.cell rfl
  · cases hj; exact hr.cell rfl
  · cases hj; exact hr.cell rfl
  · simp at hj
/-- A cell of a row of one's own, of three cells each. -/
theorem own_vls {w : World} {base : Nat} {e : TypeId} {v : Value} {l : List It} (h : w.ownsRow base e 3 v l.length (vls l)) : ∃ a c, v = .slice a l.length c ∧ (0 < l.length → ∃ b, a = some ⟨b, 0, none⟩ ∧ base ≤ b ∧ b < w.heap.size ∧ ∀ i, i < l.length →
    w.cell? ⟨b, i * 3, none⟩ = some (.int .i64 (l.getD i it0).seq) ∧ w.cell? ⟨b, i * 3 + 1, none⟩ = some (.int .i64 (l.getD i it0).stripe) ∧ w.cell? ⟨b, i * 3 + 2, none⟩ = some (.string (l.getD i it0).text)) := by
  rcases h.2 with ⟨rfl, e⟩ | ⟨g, cap, cur, rfl, h1, h2, h3, h4, h5⟩
  · exact ⟨none, 0, by rw [e], by omega⟩
  · refine ⟨_, _, rfl, fun h0 => ⟨g, rfl, h1, (Array.getElem?_eq_some_iff.1 h2).1, fun i hi => ?_⟩⟩
    have hc : ∀ j u, (vls l)[j]? = some u → w.cell? ⟨g, j, none⟩ = some u := fun j u hu => by
      have := h.cells (g := g) rfl j u hu
      rwa [add_plain rfl, Nat.zero_add] at this
    exact ⟨hc _ _ (vls_get l i hi).1, hc _ _ (vls_get l i hi).2.1, hc _ _ (vls_get l i hi).2.2⟩
end Go.Proofs.YtbmjcnmgignaoaaGreatDoor

/- What seal returns, for each closure of volume. -/
namespace Go.Proofs.YtbmjcnmgignaoaaGreatDoor
open Go.RowKit Vecm Opened Wirem Txt Frm Diskm Arym Volm Intm
open Blkm (Bk bk0 owE owB sealE sealS)
open Cfm (Cf)
open Crcm (bys)
set_option linter.unusedVariables false

/-- Sectors that are going to be written: a disk, a place, a text each. -/
def bkOf (id place epoch : Int) (tx : Int → ByteArray) (d : Int) : Bk := ⟨id, d, place, epoch, tx d⟩
def fsE (f : Int → Int) : List Int → Int
  | [] => 0
  | d :: t => if f d = 0 then fsE f t else f d
def slE (id place epoch : Int) (tx : Int → ByteArray) (l : List Int) : Int := fsE (fun d => sealE (bkOf id place epoch tx d)) l
def slL (id place epoch : Int) (tx : Int → ByteArray) (l : List Int) : List It := l.map fun d => ⟨d, place, sealS (bkOf id place epoch tx d)⟩
theorem fsE_take (f : Int → Int) : ∀ (l : List Int) (k : Nat), k < l.length → fsE f (l.take k) = 0 → f (l.getD k 0) = 0 → fsE f (l.take (k + 1)) = 0
  | [], k, h, _, _ => by simp at h
  | d :: t, 0, h, _, h2 => by
    rw [List.getD_cons_zero] at h2
    rw [List.take_succ_cons, fsE, if_pos h2, List.take_zero]; rfl
  | d :: t, k + 1, h, h1, h2 => by
    rw [List.take_succ_cons, fsE] at h1
    rw [List.take_succ_cons, fsE]
    by_cases e : f d = 0
    · rw [if_pos e] at h1
      rw [if_pos e]
      exact fsE_take f t k (by simpa using h) h1 (by rwa [List.getD_cons_succ] at h2)
    · rw [if_neg e] at h1; exact absurd h1 e
theorem fsE_stop (f : Int → Int) : ∀ (l : List Int) (k : Nat), k < l.length → fsE f (l.take k) = 0 → f (l.getD k 0) ≠ 0 → fsE f l = f (l.getD k 0)
  | [], k, h, _, _ => by simp at h
  | d :: t, 0, h, _, h2 => by
    rw [List.getD_cons_zero] at h2 ⊢
    rw [fsE, if_neg h2]
  | d :: t, k + 1, h, h1, h2 => by
    rw [List.take_succ_cons, fsE] at h1
    by_cases e : f d = 0
    · rw [if_pos e] at h1
      rw [fsE, if_pos e, List.getD_cons_succ]
      exact fsE_stop f t k (by simpa using h) h1 (by rwa [List.getD_cons_succ] at h2)
    · rw [if_neg e] at h1; exact absurd h1 e
theorem slE_take {id place epoch : Int} {tx : Int → ByteArray} {l : List Int} {k : Nat} (h : k < l.length) (h1 : slE id place epoch tx (l.take k) = 0) (h2 : sealE (bkOf id place epoch tx (l.getD k 0)) = 0) : slE id place epoch tx (l.take (k + 1)) = 0 := fsE_take _ l k h h1 h2
theorem slE_stop {id place epoch : Int} {tx : Int → ByteArray} {l : List Int} {k : Nat} (h : k < l.length) (h1 : slE id place epoch tx (l.take k) = 0) (h2 : sealE (bkOf id place epoch tx (l.getD k 0)) ≠ 0) : slE id place epoch tx l = sealE (bkOf id place epoch tx (l.getD k 0)) := fsE_stop _ l k h h1 h2
theorem slL_snoc {id place epoch : Int} {tx : Int → ByteArray} {l : List Int} {k : Nat} (h : k < l.length) : slL id place epoch tx (l.take k) ++ [⟨l.getD k 0, place, sealS (bkOf id place epoch tx (l.getD k 0))⟩] = slL id place epoch tx (l.take (k + 1)) := by
  rw [ztake_one h, slL, slL, List.map_append]; rfl
theorem slL_length (id place epoch : Int) (tx : Int → ByteArray) (l : List Int) : (slL id place epoch tx l).length = l.length := by simp [slL]
def SlP (w : World) (E : Int) (l : List It) (e : Ending) (w' : World) : Prop :=
  Below w.heap.size w w' ∧ ((E = 0 ∧ ∃ v, e = .returned (.tuple #[v, .int .i64 0]) ∧ w'.ownsRow w.heap.size 85 3 v l.length (vls l)) ∨ (E ≠ 0 ∧ e = .returned (.tuple #[.slice none 0 0, .int .i64 E])))

set_option maxRecDepth 100000 in
set_option maxHeartbeats 4000000 in
theorem hsseal_any {w : World} {pv pa : Nat} {fp : List Nat} {A : Ar} {c : Cf} {id seq : Int} (h : IsW w pv pa fp A c id seq) (place epoch : Int) (tx : Int → ByteArray) (l : List Int) (v : Value) (base B : Nat)
    (ho : w.ownsRow base 3 1 v l.length (zcs l)) (hl : l.length ≤ 1000) (hk : ∀ d ∈ l, BkOk (bkOf id place epoch tx d))
    (hf : ∀ W, Below w.heap.size w W → ∀ d ∈ l, Calls Tryz.prog 59 #[.int .i64 d, .pointer (some ⟨B, 0, none⟩)] W fun e w' => e = .returned (.string (tx d)) ∧ Below W.heap.size W w') :
    Calls Tryz.prog 58 #[.pointer (some ⟨pv, 0, none⟩), v, .int .i64 place, .int .i64 epoch, .func (.func 59) #[] #[.pointer (some ⟨B, 0, none⟩)]] w (SlP w (slE id place epoch tx l) (slL id place epoch tx l)) := by
  obtain ⟨i0, hi, hz0, hz1, hz2⟩ := vinfo (i := 85) (z := .agg #[.int .i64 0, .int .i64 0, .string ByteArray.empty]) (a := 3) (b := 32) (by kernel_rfl)
  have HI : Hid (_) := hi
  have HZ0 : Hid (_) := hz0
  have HZ1 : Hid (_) := hz1
  have HZ2 : Hid (_) := hz2
  obtain ⟨a, cp, rfl, hc1, hc2, hw⟩ := own_zcs ho
  have HW : Hid (_) := hw
  have H0 : Hid (IsW w pv pa fp A c id seq) := h
  have HFC : Hid (∀ W, Below w.heap.size w W → ∀ d ∈ l, Calls Tryz.prog 59 #[.int .i64 d, .pointer (some ⟨B, 0, none⟩)] W fun e w' => e = .returned (.string (tx d)) ∧ Below W.heap.size W w') := hf
  have HSE : Hid (∀ d ∈ l, ∀ W, Calls Tryz.prog 107 #[.agg #[.int .i64 id, .int .i64 d, .int .i64 place, .int .i64 epoch, .string (tx d)]] W (SealP W (bkOf id place epoch tx d))) := show ∀ d, _ → ∀ W, _ from fun d hd W => seal_any (bkOf id place epoch tx d) W (hk d hd)
  have HTK : Hid (∀ k, k < l.length → slE id place epoch tx (l.take k) = 0 → sealE (bkOf id place epoch tx (l.getD k 0)) = 0 → slE id place epoch tx (l.take (k + 1)) = 0) := show ∀ k, _ → _ → _ → _ from fun k h1 h2 h3 => slE_take h1 h2 h3
  have HST : Hid (∀ k, k < l.length → slE id place epoch tx (l.take k) = 0 → sealE (bkOf id place epoch tx (l.getD k 0)) ≠ 0 → slE id place epoch tx l = sealE (bkOf id place epoch tx (l.getD k 0))) := show ∀ k, _ → _ → _ → _ from fun k h1 h2 h3 => slE_stop h1 h2 h3
  have HSN : Hid (∀ k, k < l.length → slL id place epoch tx (l.take k) ++ [⟨l.getD k 0, place, sealS (bkOf id place epoch tx (l.getD k 0))⟩] = slL id place epoch tx (l.take (k + 1))) := show ∀ k, _ → _ from fun k h1 => slL_snoc h1
  have HGM : Hid (∀ k, k < l.length → l.getD k 0 ∈ l) := show ∀ k, _ → _ from fun k hk => by rw [show l.getD k 0 = l[k] by simp [List.getD, hk]]; exact List.getElem_mem _
  have HLL : Hid (∀ k, k ≤ l.length → (slL id place epoch tx (l.take k)).length = k) := show ∀ k, _ → _ from fun k hk => by rw [slL_length, List.length_take]; omega
  obtain ⟨L, hL⟩ : ∃ L, L = l.length := ⟨_, rfl⟩
  have HL : Hid (L = l.length) := hL
  rw [← hL] at HW HTK HST HSN HGM HLL hl ⊢
  clear h hf hk ho hi hz0 hz1 hz2 hw hc1 hc2 hL
  go_enter Tryz.func58, Tryz.ntmps58
  go_wp2
  go_loopw [12, 19] (fun v i wr => ∃ k : Nat, k ≤ L ∧ i = .int .i64 (k : Int) ∧ slE id place epoch tx (l.take k) = 0 ∧ wr.ownsRow w.heap.size 85 3 v k (vls (slL id place epoch tx (l.take k))) ∧ Below w.heap.size w wr) (fun _ i _ => L - (RowKit.intOf i).toNat)
  case atStart => exact ⟨0, by omega, rfl, rfl, World.ownsRow_nil _ _ _ _, Below.refl _ _⟩
  case round =>
    obtain ⟨k, hk, rfl, hz, ho, hbel⟩ := hrel
    have O1 : Hid (wr.ownsRow w.heap.size 85 3 u12 k (vls (slL id place epoch tx (l.take k)))) := ho
    have BW : Hid (Below w.heap.size w wr) := hbel
    have HZK : Hid (slE id place epoch tx (l.take k) = 0) := hz
    by_cases hlt : k < L
    case neg =>
      obtain rfl : k = L := by omega
      have F : Hid (slE id place epoch tx l = 0 ∧ wr.ownsRow w.heap.size 85 3 u12 (slL id place epoch tx l).length (vls (slL id place epoch tx l))) := by
        have e : l.take k = l := List.take_of_length_le (by rw [← HL.out]; exact Nat.le_refl _)
        have h1 := HZK.out
        have h2 := O1.out
        rw [e] at h1 h2
        exact ⟨h1, by rw [slL_length, ← HL.out]; exact h2⟩
      clear hz ho hbel
      go_wp2
      go_ret2
      exact ⟨BW.out, .inl ⟨F.out.1, _, rfl, F.out.2⟩⟩
    obtain ⟨g, rfl, _, hgl, hcell⟩ := HW.out (by omega)
    have hd := (hbel.cell (by exact hgl)).trans (hcell k (by omega))
    have hm := HGM.out k hlt
    have x6 : wr.cell? ⟨pv, 6, none⟩ = some (.int .i64 id) := (H0.out.below hbel).row.cell rfl
    have C1 := show Hid (∀ W, _ → _) from fun W (hW : Below w.heap.size w W) => HFC.out W hW _ hm
    have C2 := show Hid (∀ W, _) from HSE.out _ hm
    have HTk := show Hid (_ → _ → _) from HTK.out k hlt
    have HSk := show Hid (_ → _ → _) from HST.out k hlt
    have HNk := show Hid (_ = _) from HSN.out k hlt
    unfold SealP at C2
    generalize l.getD k 0 = d at hd hm C1 C2 HTk HSk HNk
    generalize sealS (bkOf id place epoch tx d) = S at C2 HNk
    generalize sealE (bkOf id place epoch tx d) = E at C2 HTk HSk
    generalize tx d = t at C1 C2
    have q0 : ∀ p : Kin.Of wr, p.w.cell? ⟨pv, 6, none⟩ = some (.int .i64 id) := fun p => ((H0.out.below BW.out).below p.b).row.cell rfl
    have D1 : Hid (∀ p : Kin.Of wr, Calls Tryz.prog 59 #[.int .i64 d, .pointer (some ⟨B, 0, none⟩)] p.w fun e w' => e = .returned (.string t) ∧ ∃ q : Kin.Of wr, w' = q.w) := show ∀ p, _ from fun p => Kin.made (C1.out p.w (below_step BW.out p.b))
    have D2 : Hid (∀ p : Kin.Of wr, Calls Tryz.prog 107 #[.agg #[.int .i64 id, .int .i64 d, .int .i64 place, .int .i64 epoch, .string t]] p.w fun e w' => e = .returned (.tuple #[.string S, .int .i64 E]) ∧ ∃ q : Kin.Of wr, w' = q.w) := show ∀ p, _ from fun p => Kin.made (C2.out p.w)
    have hne : Nonempty (Kin.Of wr) := Kin.one wr
    clear hz ho hbel hcell hgl C1 C2 x6 hm
    go_wp2
    refine Kin.region (w0 := wr) (Below.refl _ _) (by kernel_rfl) (by kernel_rfl) ?_
    repeat (go_big_quiet_step ((fail)))
    go_big_quiet_step ((go_at_call 59; exact D1.out _))
    repeat (go_big_quiet_step ((fail)))
    go_big_quiet_step ((go_at_call 107; exact D2.out _))
    repeat (go_big_quiet_step ((fail)))
    refine wpQuiet_nil ?_
    intro wq hw'
    obtain ⟨⟨wq', hbq⟩, hw''⟩ := hw'
    dsimp only at hw''
    subst hw''
    have O2 : Hid (wq.ownsRow w.heap.size 85 3 u12 k (vls (slL id place epoch tx (l.take k)))) := own_kept O1.out (Fr.of_below (fp := []) hbq) (by simp)
    have B2 : Hid (Below w.heap.size w wq) := below_step BW.out hbq
    clear hbq q0 hne D1 D2 O1 BW
    by_cases hE : E = 0
    case neg =>
      have F : Hid (slE id place epoch tx l = E) := HSk.out HZK.out hE
      have HNE : Hid (E ≠ 0) := hE
      have hn0 : (E != 0) = true := by rw [bne_iff_ne]; exact hE
      clear hE
      go_wp2
      go_ret2
      exact ⟨B2.out, .inr ⟨F.out ▸ HNE.out, congrArg (fun x => Ending.returned (.tuple #[.slice none 0 0, .int .i64 x])) F.out.symm⟩⟩
    have HZ' : Hid (slE id place epoch tx (l.take (k + 1)) = 0) := HTk.out HZK.out hE
    subst hE
    have hws := B2.out.size
    go_wp2_with (at_builtin; go_must (refine wpList_append_own _ rfl _ _ 54 rfl w.heap.size 85 i0 (.agg #[.int .i64 0, .int .i64 0, .string ByteArray.empty]) 3 32 Tryz.underlying54 HI.out HZ0.out HZ1.out HZ2.out rfl (by decide) _ _ _ rfl (World.ownsRow.alloc O2.out _) ⟨wq.heap.size, 0, none⟩ 1 1 [.int .i64 d, .int .i64 place, .string S] rfl rfl (vcell_three _ _ _ _ _) (by intro x hx; simp at hx; rcases hx with rfl | rfl | rfl <;> rfl) (by unfold maxLen; omega) (by omega) (by simp; omega) ?_))
    intro v1 U1 o1 g1 _
    have O3 : Hid (U1.ownsRow w.heap.size 85 3 v1 (k + 1) (vls (slL id place epoch tx (l.take (k + 1))))) := show World.ownsRow _ _ _ _ _ _ _ by
      rw [← HNk.out, ← vls_snoc]; exact o1
    have B3 : Hid (Below w.heap.size w U1) := (B2.out.alloc B2.out.size _).grown g1 (by simp; omega) (fun g hg => (World.ownsRow.lt O2.out g hg).1)
    clear o1 g1
    go_wp2
    go_roundw
    case rel => exact ⟨k + 1, by omega, by go_num, HZ'.out, O3.out, B3.out⟩
    case measure => simp [RowKit.intOf]; omega

set_option maxRecDepth 100000 in
set_option maxHeartbeats 4000000 in
theorem rsseal_any {w : World} {pv pa : Nat} {fp : List Nat} {A : Ar} {c : Cf} {id seq : Int} (h : IsW w pv pa fp A c id seq) (place epoch : Int) (tx : Int → ByteArray) (l : List Int) (v : Value) (base B : Nat)
    (ho : w.ownsRow base 3 1 v l.length (zcs l)) (hl : l.length ≤ 1000) (hk : ∀ d ∈ l, BkOk (bkOf id place epoch tx d))
    (hf : ∀ W, Below w.heap.size w W → ∀ d ∈ l, Calls Tryz.prog 81 #[.int .i64 d, .pointer (some ⟨B, 0, none⟩)] W fun e w' => e = .returned (.string (tx d)) ∧ Below W.heap.size W w') :
    Calls Tryz.prog 58 #[.pointer (some ⟨pv, 0, none⟩), v, .int .i64 place, .int .i64 epoch, .func (.func 81) #[] #[.pointer (some ⟨B, 0, none⟩)]] w (SlP w (slE id place epoch tx l) (slL id place epoch tx l)) := by
  obtain ⟨i0, hi, hz0, hz1, hz2⟩ := vinfo (i := 85) (z := .agg #[.int .i64 0, .int .i64 0, .string ByteArray.empty]) (a := 3) (b := 32) (by kernel_rfl)
  have HI : Hid (_) := hi
  have HZ0 : Hid (_) := hz0
  have HZ1 : Hid (_) := hz1
  have HZ2 : Hid (_) := hz2
  obtain ⟨a, cp, rfl, hc1, hc2, hw⟩ := own_zcs ho
  have HW : Hid (_) := hw
  have H0 : Hid (IsW w pv pa fp A c id seq) := h
  have HFC : Hid (∀ W, Below w.heap.size w W → ∀ d ∈ l, Calls Tryz.prog 81 #[.int .i64 d, .pointer (some ⟨B, 0, none⟩)] W fun e w' => e = .returned (.string (tx d)) ∧ Below W.heap.size W w') := hf
  have HSE : Hid (∀ d ∈ l, ∀ W, Calls Tryz.prog 107 #[.agg #[.int .i64 id, .int .i64 d, .int .i64 place, .int .i64 epoch, .string (tx d)]] W (SealP W (bkOf id place epoch tx d))) := show ∀ d, _ → ∀ W, _ from fun d hd W => seal_any (bkOf id place epoch tx d) W (hk d hd)
  have HTK : Hid (∀ k, k < l.length → slE id place epoch tx (l.take k) = 0 → sealE (bkOf id place epoch tx (l.getD k 0)) = 0 → slE id place epoch tx (l.take (k + 1)) = 0) := show ∀ k, _ → _ → _ → _ from fun k h1 h2 h3 => slE_take h1 h2 h3
  have HST : Hid (∀ k, k < l.length → slE id place epoch tx (l.take k) = 0 → sealE (bkOf id place epoch tx (l.getD k 0)) ≠ 0 → slE id place epoch tx l = sealE (bkOf id place epoch tx (l.getD k 0))) := show ∀ k, _ → _ → _ → _ from fun k h1 h2 h3 => slE_stop h1 h2 h3
  have HSN : Hid (∀ k, k < l.length → slL id place epoch tx (l.take k) ++ [⟨l.getD k 0, place, sealS (bkOf id place epoch tx (l.getD k 0))⟩] = slL id place epoch tx (l.take (k + 1))) := show ∀ k, _ → _ from fun k h1 => slL_snoc h1
  have HGM : Hid (∀ k, k < l.length → l.getD k 0 ∈ l) := show ∀ k, _ → _ from fun k hk => by rw [show l.getD k 0 = l[k] by simp [List.getD, hk]]; exact List.getElem_mem _
  have HLL : Hid (∀ k, k ≤ l.length → (slL id place epoch tx (l.take k)).length = k) := show ∀ k, _ → _ from fun k hk => by rw [slL_length, List.length_take]; omega
  obtain ⟨L, hL⟩ : ∃ L, L = l.length := ⟨_, rfl⟩
  have HL : Hid (L = l.length) := hL
  rw [← hL] at HW HTK HST HSN HGM HLL hl ⊢
  clear h hf hk ho hi hz0 hz1 hz2 hw hc1 hc2 hL
  go_enter Tryz.func58, Tryz.ntmps58
  go_wp2
  go_loopw [12, 19] (fun v i wr => ∃ k : Nat, k ≤ L ∧ i = .int .i64 (k : Int) ∧ slE id place epoch tx (l.take k) = 0 ∧ wr.ownsRow w.heap.size 85 3 v k (vls (slL id place epoch tx (l.take k))) ∧ Below w.heap.size w wr) (fun _ i _ => L - (RowKit.intOf i).toNat)
  case atStart => exact ⟨0, by omega, rfl, rfl, World.ownsRow_nil _ _ _ _, Below.refl _ _⟩
  case round =>
    obtain ⟨k, hk, rfl, hz, ho, hbel⟩ := hrel
    have O1 : Hid (wr.ownsRow w.heap.size 85 3 u12 k (vls (slL id place epoch tx (l.take k)))) := ho
    have BW : Hid (Below w.heap.size w wr) := hbel
    have HZK : Hid (slE id place epoch tx (l.take k) = 0) := hz
    by_cases hlt : k < L
    case neg =>
      obtain rfl : k = L := by omega
      have F : Hid (slE id place epoch tx l = 0 ∧ wr.ownsRow w.heap.size 85 3 u12 (slL id place epoch tx l).length (vls (slL id place epoch tx l))) := by
        have e : l.take k = l := List.take_of_length_le (by rw [← HL.out]; exact Nat.le_refl _)
        have h1 := HZK.out
        have h2 := O1.out
        rw [e] at h1 h2
        exact ⟨h1, by rw [slL_length, ← HL.out]; exact h2⟩
      clear hz ho hbel
      go_wp2
      go_ret2
      exact ⟨BW.out, .inl ⟨F.out.1, _, rfl, F.out.2⟩⟩
    obtain ⟨g, rfl, _, hgl, hcell⟩ := HW.out (by omega)
    have hd := (hbel.cell (by exact hgl)).trans (hcell k (by omega))
    have hm := HGM.out k hlt
    have x6 : wr.cell? ⟨pv, 6, none⟩ = some (.int .i64 id) := (H0.out.below hbel).row.cell rfl
    have C1 := show Hid (∀ W, _ → _) from fun W (hW : Below w.heap.size w W) => HFC.out W hW _ hm
    have C2 := show Hid (∀ W, _) from HSE.out _ hm
    have HTk := show Hid (_ → _ → _) from HTK.out k hlt
    have HSk := show Hid (_ → _ → _) from HST.out k hlt
    have HNk := show Hid (_ = _) from HSN.out k hlt
    unfold SealP at C2
    generalize l.getD k 0 = d at hd hm C1 C2 HTk HSk HNk
    generalize sealS (bkOf id place epoch tx d) = S at C2 HNk
    generalize sealE (bkOf id place epoch tx d) = E at C2 HTk HSk
    generalize tx d = t at C1 C2
    have q0 : ∀ p : Kin.Of wr, p.w.cell? ⟨pv, 6, none⟩ = some (.int .i64 id) := fun p => ((H0.out.below BW.out).below p.b).row.cell rfl
    have D1 : Hid (∀ p : Kin.Of wr, Calls Tryz.prog 81 #[.int .i64 d, .pointer (some ⟨B, 0, none⟩)] p.w fun e w' => e = .returned (.string t) ∧ ∃ q : Kin.Of wr, w' = q.w) := show ∀ p, _ from fun p => Kin.made (C1.out p.w (below_step BW.out p.b))
    have D2 : Hid (∀ p : Kin.Of wr, Calls Tryz.prog 107 #[.agg #[.int .i64 id, .int .i64 d, .int .i64 place, .int .i64 epoch, .string t]] p.w fun e w' => e = .returned (.tuple #[.string S, .int .i64 E]) ∧ ∃ q : Kin.Of wr, w' = q.w) := show ∀ p, _ from fun p => Kin.made (C2.out p.w)
    have hne : Nonempty (Kin.Of wr) := Kin.one wr
    clear hz ho hbel hcell hgl C1 C2 x6 hm
    go_wp2
    refine Kin.region (w0 := wr) (Below.refl _ _) (by kernel_rfl) (by kernel_rfl) ?_
    repeat (go_big_quiet_step ((fail)))
    go_big_quiet_step ((go_at_call 81; exact D1.out _))
    repeat (go_big_quiet_step ((fail)))
    go_big_quiet_step ((go_at_call 107; exact D2.out _))
    repeat (go_big_quiet_step ((fail)))
    refine wpQuiet_nil ?_
    intro wq hw'
    obtain ⟨⟨wq', hbq⟩, hw''⟩ := hw'
    dsimp only at hw''
    subst hw''
    have O2 : Hid (wq.ownsRow w.heap.size 85 3 u12 k (vls (slL id place epoch tx (l.take k)))) := own_kept O1.out (Fr.of_below (fp := []) hbq) (by simp)
    have B2 : Hid (Below w.heap.size w wq) := below_step BW.out hbq
    clear hbq q0 hne D1 D2 O1 BW
    by_cases hE : E = 0
    case neg =>
      have F : Hid (slE id place epoch tx l = E) := HSk.out HZK.out hE
      have HNE : Hid (E ≠ 0) := hE
      have hn0 : (E != 0) = true := by rw [bne_iff_ne]; exact hE
      clear hE
      go_wp2
      go_ret2
      exact ⟨B2.out, .inr ⟨F.out ▸ HNE.out, congrArg (fun x => Ending.returned (.tuple #[.slice none 0 0, .int .i64 x])) F.out.symm⟩⟩
    have HZ' : Hid (slE id place epoch tx (l.take (k + 1)) = 0) := HTk.out HZK.out hE
    subst hE
    have hws := B2.out.size
    go_wp2_with (at_builtin; go_must (refine wpList_append_own _ rfl _ _ 54 rfl w.heap.size 85 i0 (.agg #[.int .i64 0, .int .i64 0, .string ByteArray.empty]) 3 32 Tryz.underlying54 HI.out HZ0.out HZ1.out HZ2.out rfl (by decide) _ _ _ rfl (World.ownsRow.alloc O2.out _) ⟨wq.heap.size, 0, none⟩ 1 1 [.int .i64 d, .int .i64 place, .string S] rfl rfl (vcell_three _ _ _ _ _) (by intro x hx; simp at hx; rcases hx with rfl | rfl | rfl <;> rfl) (by unfold maxLen; omega) (by omega) (by simp; omega) ?_))
    intro v1 U1 o1 g1 _
    have O3 : Hid (U1.ownsRow w.heap.size 85 3 v1 (k + 1) (vls (slL id place epoch tx (l.take (k + 1))))) := show World.ownsRow _ _ _ _ _ _ _ by
      rw [← HNk.out, ← vls_snoc]; exact o1
    have B3 : Hid (Below w.heap.size w U1) := (B2.out.alloc B2.out.size _).grown g1 (by simp; omega) (fun g hg => (World.ownsRow.lt O2.out g hg).1)
    clear o1 g1
    go_wp2
    go_roundw
    case rel => exact ⟨k + 1, by omega, by go_num, HZ'.out, O3.out, B3.out⟩
    case measure => simp [RowKit.intOf]; omega

set_option maxRecDepth 100000 in
set_option maxHeartbeats 4000000 in
theorem ssseal_any {w : World} {pv pa : Nat} {fp : List Nat} {A : Ar} {c : Cf} {id seq : Int} (h : IsW w pv pa fp A c id seq) (place epoch : Int) (tx : Int → ByteArray) (l : List Int) (v : Value) (base B : Nat)
    (ho : w.ownsRow base 3 1 v l.length (zcs l)) (hl : l.length ≤ 1000) (hk : ∀ d ∈ l, BkOk (bkOf id place epoch tx d))
    (hf : ∀ W, Below w.heap.size w W → ∀ d ∈ l, Calls Tryz.prog 77 #[.int .i64 d, .pointer (some ⟨B, 0, none⟩)] W fun e w' => e = .returned (.string (tx d)) ∧ Below W.heap.size W w') :
    Calls Tryz.prog 58 #[.pointer (some ⟨pv, 0, none⟩), v, .int .i64 place, .int .i64 epoch, .func (.func 77) #[] #[.pointer (some ⟨B, 0, none⟩)]] w (SlP w (slE id place epoch tx l) (slL id place epoch tx l)) := by
  obtain ⟨i0, hi, hz0, hz1, hz2⟩ := vinfo (i := 85) (z := .agg #[.int .i64 0, .int .i64 0, .string ByteArray.empty]) (a := 3) (b := 32) (by kernel_rfl)
  have HI : Hid (_) := hi
  have HZ0 : Hid (_) := hz0
  have HZ1 : Hid (_) := hz1
  have HZ2 : Hid (_) := hz2
  obtain ⟨a, cp, rfl, hc1, hc2, hw⟩ := own_zcs ho
  have HW : Hid (_) := hw
  have H0 : Hid (IsW w pv pa fp A c id seq) := h
  have HFC : Hid (∀ W, Below w.heap.size w W → ∀ d ∈ l, Calls Tryz.prog 77 #[.int .i64 d, .pointer (some ⟨B, 0, none⟩)] W fun e w' => e = .returned (.string (tx d)) ∧ Below W.heap.size W w') := hf
  have HSE : Hid (∀ d ∈ l, ∀ W, Calls Tryz.prog 107 #[.agg #[.int .i64 id, .int .i64 d, .int .i64 place, .int .i64 epoch, .string (tx d)]] W (SealP W (bkOf id place epoch tx d))) := show ∀ d, _ → ∀ W, _ from fun d hd W => seal_any (bkOf id place epoch tx d) W (hk d hd)
  have HTK : Hid (∀ k, k < l.length → slE id place epoch tx (l.take k) = 0 → sealE (bkOf id place epoch tx (l.getD k 0)) = 0 → slE id place epoch tx (l.take (k + 1)) = 0) := show ∀ k, _ → _ → _ → _ from fun k h1 h2 h3 => slE_take h1 h2 h3
  have HST : Hid (∀ k, k < l.length → slE id place epoch tx (l.take k) = 0 → sealE (bkOf id place epoch tx (l.getD k 0)) ≠ 0 → slE id place epoch tx l = sealE (bkOf id place epoch tx (l.getD k 0))) := show ∀ k, _ → _ → _ → _ from fun k h1 h2 h3 => slE_stop h1 h2 h3
  have HSN : Hid (∀ k, k < l.length → slL id place epoch tx (l.take k) ++ [⟨l.getD k 0, place, sealS (bkOf id place epoch tx (l.getD k 0))⟩] = slL id place epoch tx (l.take (k + 1))) := show ∀ k, _ → _ from fun k h1 => slL_snoc h1
  have HGM : Hid (∀ k, k < l.length → l.getD k 0 ∈ l) := show ∀ k, _ → _ from fun k hk => by rw [show l.getD k 0 = l[k] by simp [List.getD, hk]]; exact List.getElem_mem _
  have HLL : Hid (∀ k, k ≤ l.length → (slL id place epoch tx (l.take k)).length = k) := show ∀ k, _ → _ from fun k hk => by rw [slL_length, List.length_take]; omega
  obtain ⟨L, hL⟩ : ∃ L, L = l.length := ⟨_, rfl⟩
  have HL : Hid (L = l.length) := hL
  rw [← hL] at HW HTK HST HSN HGM HLL hl ⊢
  clear h hf hk ho hi hz0 hz1 hz2 hw hc1 hc2 hL
  go_enter Tryz.func58, Tryz.ntmps58
  go_wp2
  go_loopw [12, 19] (fun v i wr => ∃ k : Nat, k ≤ L ∧ i = .int .i64 (k : Int) ∧ slE id place epoch tx (l.take k) = 0 ∧ wr.ownsRow w.heap.size 85 3 v k (vls (slL id place epoch tx (l.take k))) ∧ Below w.heap.size w wr) (fun _ i _ => L - (RowKit.intOf i).toNat)
  case atStart => exact ⟨0, by omega, rfl, rfl, World.ownsRow_nil _ _ _ _, Below.refl _ _⟩
  case round =>
    obtain ⟨k, hk, rfl, hz, ho, hbel⟩ := hrel
    have O1 : Hid (wr.ownsRow w.heap.size 85 3 u12 k (vls (slL id place epoch tx (l.take k)))) := ho
    have BW : Hid (Below w.heap.size w wr) := hbel
    have HZK : Hid (slE id place epoch tx (l.take k) = 0) := hz
    by_cases hlt : k < L
    case neg =>
      obtain rfl : k = L := by omega
      have F : Hid (slE id place epoch tx l = 0 ∧ wr.ownsRow w.heap.size 85 3 u12 (slL id place epoch tx l).length (vls (slL id place epoch tx l))) := by
        have e : l.take k = l := List.take_of_length_le (by rw [← HL.out]; exact Nat.le_refl _)
        have h1 := HZK.out
        have h2 := O1.out
        rw [e] at h1 h2
        exact ⟨h1, by rw [slL_length, ← HL.out]; exact h2⟩
      clear hz ho hbel
      go_wp2
      go_ret2
      exact ⟨BW.out, .inl ⟨F.out.1, _, rfl, F.out.2⟩⟩
    obtain ⟨g, rfl, _, hgl, hcell⟩ := HW.out (by omega)
    have hd := (hbel.cell (by exact hgl)).trans (hcell k (by omega))
    have hm := HGM.out k hlt
    have x6 : wr.cell? ⟨pv, 6, none⟩ = some (.int .i64 id) := (H0.out.below hbel).row.cell rfl
    have C1 := show Hid (∀ W, _ → _) from fun W (hW : Below w.heap.size w W) => HFC.out W hW _ hm
    have C2 := show Hid (∀ W, _) from HSE.out _ hm
    have HTk := show Hid (_ → _ → _) from HTK.out k hlt
    have HSk := show Hid (_ → _ → _) from HST.out k hlt
    have HNk := show Hid (_ = _) from HSN.out k hlt
    unfold SealP at C2
    generalize l.getD k 0 = d at hd hm C1 C2 HTk HSk HNk
    generalize sealS (bkOf id place epoch tx d) = S at C2 HNk
    generalize sealE (bkOf id place epoch tx d) = E at C2 HTk HSk
    generalize tx d = t at C1 C2
    have q0 : ∀ p : Kin.Of wr, p.w.cell? ⟨pv, 6, none⟩ = some (.int .i64 id) := fun p => ((H0.out.below BW.out).below p.b).row.cell rfl
    have D1 : Hid (∀ p : Kin.Of wr, Calls Tryz.prog 77 #[.int .i64 d, .pointer (some ⟨B, 0, none⟩)] p.w fun e w' => e = .returned (.string t) ∧ ∃ q : Kin.Of wr, w' = q.w) := show ∀ p, _ from fun p => Kin.made (C1.out p.w (below_step BW.out p.b))
    have D2 : Hid (∀ p : Kin.Of wr, Calls Tryz.prog 107 #[.agg #[.int .i64 id, .int .i64 d, .int .i64 place, .int .i64 epoch, .string t]] p.w fun e w' => e = .returned (.tuple #[.string S, .int .i64 E]) ∧ ∃ q : Kin.Of wr, w' = q.w) := show ∀ p, _ from fun p => Kin.made (C2.out p.w)
    have hne : Nonempty (Kin.Of wr) := Kin.one wr
    clear hz ho hbel hcell hgl C1 C2 x6 hm
    go_wp2
    refine Kin.region (w0 := wr) (Below.refl _ _) (by kernel_rfl) (by kernel_rfl) ?_
    repeat (go_big_quiet_step ((fail)))
    go_big_quiet_step ((go_at_call 77; exact D1.out _))
    repeat (go_big_quiet_step ((fail)))
    go_big_quiet_step ((go_at_call 107; exact D2.out _))
    repeat (go_big_quiet_step ((fail)))
    refine wpQuiet_nil ?_
    intro wq hw'
    obtain ⟨⟨wq', hbq⟩, hw''⟩ := hw'
    dsimp only at hw''
    subst hw''
    have O2 : Hid (wq.ownsRow w.heap.size 85 3 u12 k (vls (slL id place epoch tx (l.take k)))) := own_kept O1.out (Fr.of_below (fp := []) hbq) (by simp)
    have B2 : Hid (Below w.heap.size w wq) := below_step BW.out hbq
    clear hbq q0 hne D1 D2 O1 BW
    by_cases hE : E = 0
    case neg =>
      have F : Hid (slE id place epoch tx l = E) := HSk.out HZK.out hE
      have HNE : Hid (E ≠ 0) := hE
      have hn0 : (E != 0) = true := by rw [bne_iff_ne]; exact hE
      clear hE
      go_wp2
      go_ret2
      exact ⟨B2.out, .inr ⟨F.out ▸ HNE.out, congrArg (fun x => Ending.returned (.tuple #[.slice none 0 0, .int .i64 x])) F.out.symm⟩⟩
    have HZ' : Hid (slE id place epoch tx (l.take (k + 1)) = 0) := HTk.out HZK.out hE
    subst hE
    have hws := B2.out.size
    go_wp2_with (at_builtin; go_must (refine wpList_append_own _ rfl _ _ 54 rfl w.heap.size 85 i0 (.agg #[.int .i64 0, .int .i64 0, .string ByteArray.empty]) 3 32 Tryz.underlying54 HI.out HZ0.out HZ1.out HZ2.out rfl (by decide) _ _ _ rfl (World.ownsRow.alloc O2.out _) ⟨wq.heap.size, 0, none⟩ 1 1 [.int .i64 d, .int .i64 place, .string S] rfl rfl (vcell_three _ _ _ _ _) (by intro x hx; simp at hx; rcases hx with rfl | rfl | rfl <;> rfl) (by unfold maxLen; omega) (by omega) (by simp; omega) ?_))
    intro v1 U1 o1 g1 _
    have O3 : Hid (U1.ownsRow w.heap.size 85 3 v1 (k + 1) (vls (slL id place epoch tx (l.take (k + 1))))) := show World.ownsRow _ _ _ _ _ _ _ by
      rw [← HNk.out, ← vls_snoc]; exact o1
    have B3 : Hid (Below w.heap.size w U1) := (B2.out.alloc B2.out.size _).grown g1 (by simp; omega) (fun g hg => (World.ownsRow.lt O2.out g hg).1)
    clear o1 g1
    go_wp2
    go_roundw
    case rel => exact ⟨k + 1, by omega, by go_num, HZ'.out, O3.out, B3.out⟩
    case measure => simp [RowKit.intOf]; omega
end Go.Proofs.YtbmjcnmgignaoaaGreatDoor

/- What heads, shards return. -/
namespace Go.Proofs.YtbmjcnmgignaoaaGreatDoor
open Go.RowKit Vecm Opened Wirem Txt Frm Diskm Arym Volm Intm
open Blkm (Bk bk0 owE owB sealE sealS)
open Cfm (Cf)
open Crcm (bys)
set_option linter.unusedVariables false

set_option maxRecDepth 100000 in
theorem hclo_any {w : World} {B : Nat} {s : ByteArray} (h : w.cell? ⟨B, 0, none⟩ = some (.string s)) (d : Int) :
    Calls Tryz.prog 59 #[.int .i64 d, .pointer (some ⟨B, 0, none⟩)] w fun e w' => e = .returned (.string s) ∧ Below w.heap.size w w' := by
  go_enter Tryz.func59, Tryz.ntmps59
  go_wp2
  go_ret
  exact ⟨rfl, Below.refl _ _⟩

set_option maxRecDepth 100000 in
theorem rclo_any {w : World} {B : Nat} {s : ByteArray} (h : w.cell? ⟨B, 0, none⟩ = some (.string s)) (d : Int) :
    Calls Tryz.prog 81 #[.int .i64 d, .pointer (some ⟨B, 0, none⟩)] w fun e w' => e = .returned (.string s) ∧ Below w.heap.size w w' := by
  go_enter Tryz.func81, Tryz.ntmps81
  go_wp2
  go_ret
  exact ⟨rfl, Below.refl _ _⟩

set_option maxRecDepth 100000 in
theorem sclo_any {w : World} {B g off len cap : Nat} {s : ByteArray} (h : w.cell? ⟨B, 0, none⟩ = some (.slice (some ⟨g, off, none⟩) len cap)) (d : Nat) (hd : d < len) (hs : w.cell? ⟨g, off + d, none⟩ = some (.string s)) :
    Calls Tryz.prog 77 #[.int .i64 (d : Int), .pointer (some ⟨B, 0, none⟩)] w fun e w' => e = .returned (.string s) ∧ Below w.heap.size w w' := by
  have hd' : (d : Int) < (len : Int) := by omega
  go_enter Tryz.func77, Tryz.ntmps77
  go_wp2
  go_ret
  exact ⟨rfl, Below.refl _ _⟩

theorem SlP.up {w w0 w' : World} {E : Int} {l : List It} {e : Ending} (h : SlP w0 E l e w') (hb : Below w.heap.size w w0) : SlP w E l e w' := by
  obtain ⟨h1, h2⟩ := h
  refine ⟨below_step hb h1, ?_⟩
  rcases h2 with ⟨h2, v, h3, h4⟩ | h2
  · exact .inl ⟨h2, v, h3, Go.Joins.ownsRow_le h4 hb.size⟩
  · exact .inr h2
theorem Fine.check {c : Cf} (h : Fine c) : Cfm.chE c = 0 := Cfm.chE_zero.2 h.may

set_option maxRecDepth 100000 in
set_option maxHeartbeats 2000000 in
theorem heads_any {w : World} {pv pa : Nat} {fp : List Nat} {A : Ar} {c : Cf} {id seq : Int} (h : IsW w pv pa fp A c id seq) (hc : Fine c) (l : List Int) (v : Value) (base : Nat)
    (ho : w.ownsRow base 3 1 v l.length (zcs l)) (hl : l.length ≤ 1000) (hk : ∀ d ∈ l, BkOk (bkOf id 0 0 (fun _ => Cfm.wrS c) d)) :
    Calls Tryz.prog 25 #[.pointer (some ⟨pv, 0, none⟩), v] w (SlP w (slE id 0 0 (fun _ => Cfm.wrS c) l) (slL id 0 0 (fun _ => Cfm.wrS c) l)) := by
  have hmf : ∀ (fn : Fn) (first cap : Array Value) (w : World), (Instr.makeFunc fn first cap).run Tryz.prog w = .ok (.func fn first cap) w := fun _ _ _ _ => rfl
  have CW : Hid (∀ W, Calls Tryz.prog 57 #[.agg (cfC c)] W fun e w' => e = .returned (.tuple #[.string (Cfm.wrS c), .int .i64 0]) ∧ Below W.heap.size W w') := show ∀ W, _ from fun W => by
    have := write_any c W
    unfold WrP at this
    rw [hc.check] at this
    exact this
  have CS : Hid (∀ W B, Below w.heap.size w W → W.cell? ⟨B, 0, none⟩ = some (.string (Cfm.wrS c)) → B < W.heap.size → Calls Tryz.prog 58 #[.pointer (some ⟨pv, 0, none⟩), v, .int .i64 0, .int .i64 0, .func (.func 59) #[] #[.pointer (some ⟨B, 0, none⟩)]] W (SlP w (slE id 0 0 (fun _ => Cfm.wrS c) l) (slL id 0 0 (fun _ => Cfm.wrS c) l))) := show ∀ W B, _ → _ → _ → _ from fun W B hW hB hBl =>
    (hsseal_any (h.below hW) 0 0 (fun _ => Cfm.wrS c) l v base B (own_kept ho (Fr.of_below (fp := []) hW) (by simp)) hl hk (fun W' hW' d _ => hclo_any (by rw [hW'.cell (by exact hBl)]; exact hB) d)).mono fun e w' hh => hh.up hW
  have x1 : w.cell? ⟨pv, 1, none⟩ = some (.int .i64 c.k) := h.row.cell rfl
  have x2 : w.cell? ⟨pv, 2, none⟩ = some (.int .i64 c.m) := h.row.cell rfl
  have x3 : w.cell? ⟨pv, 3, none⟩ = some (.int .i64 c.sh) := h.row.cell rfl
  have x4 : w.cell? ⟨pv, 4, none⟩ = some (.int .i64 c.st) := h.row.cell rfl
  have x5 : w.cell? ⟨pv, 5, none⟩ = some (.int .i64 c.sl) := h.row.cell rfl
  obtain ⟨va, vc, hve⟩ : ∃ va vc, v = .slice va l.length vc := by
    obtain ⟨a, cp, e, _⟩ := own_zcs ho
    exact ⟨a, cp, e⟩
  generalize slE id 0 0 (fun _ => Cfm.wrS c) l = E at CS ⊢
  generalize slL id 0 0 (fun _ => Cfm.wrS c) l = R at CS ⊢
  generalize Cfm.wrS c = s at CW CS
  obtain ⟨ck, cm, csh, cst, csl⟩ := c
  rw [cfC] at CW
  dsimp only at CW x1 x2 x3 x4 x5
  subst hve
  clear h hc ho hk
  go_enter Tryz.func25, Tryz.ntmps25
  go_wp2_with fail
  refine Calls.mono (CW.out _) ?_
  rintro e w1 ⟨rfl, hb⟩
  have C2 : Hid (_) := CS.out (w1.alloc (.cells #[.string s] 9)) w1.heap.size (hb.alloc hb.size _) ((Row.new w1 9 #[.string s]).cell rfl) (by simp)
  clear hb x1 x2 x3 x4 x5 CW CS
  go_wp2_with fail
  refine Calls.mono C2.out ?_
  rintro e w2 hh
  have HH : Hid (SlP w E R e w2) := hh
  rcases hh with ⟨_, ⟨_, v', rfl, _⟩ | ⟨_, rfl⟩⟩
  · clear C2
    go_wp2
    go_ret2
    exact HH.out
  · clear C2
    go_wp2
    go_ret2
    exact HH.out

set_option maxRecDepth 100000 in
set_option maxHeartbeats 2000000 in
theorem shards_any {w : World} {pv pa : Nat} {fp : List Nat} {A : Ar} {c : Cf} {id seq : Int} (h : IsW w pv pa fp A c id seq) (n epoch : Int) (hn : n ≤ 9223372036854775807) (l : List Int) (v : Value) (base : Nat)
    (ho : w.ownsRow base 3 1 v l.length (zcs l)) (hl : l.length ≤ 1000) {g off len cap : Nat} {ps : List ByteArray} (hp : ∀ W, Below w.heap.size w W → ∀ i, i < len → W.cell? ⟨g, off + i, none⟩ = some (.string (ps.getD i ⟨#[]⟩))) (hd : ∀ d ∈ l, 0 ≤ d ∧ d < (len : Int))
    (hk : ∀ d ∈ l, BkOk (bkOf id (Cfm.stripeN c n) epoch (fun d => ps.getD d.toNat ⟨#[]⟩) d)) :
    Calls Tryz.prog 36 #[.pointer (some ⟨pv, 0, none⟩), v, .int .i64 n, .int .i64 epoch, .slice (some ⟨g, off, none⟩) len cap] w (SlP w (slE id (Cfm.stripeN c n) epoch (fun d => ps.getD d.toNat ⟨#[]⟩) l) (slL id (Cfm.stripeN c n) epoch (fun d => ps.getD d.toNat ⟨#[]⟩) l)) := by
  have hmf : ∀ (fn : Fn) (first cap : Array Value) (w : World), (Instr.makeFunc fn first cap).run Tryz.prog w = .ok (.func fn first cap) w := fun _ _ _ _ => rfl
  obtain ⟨V, hV⟩ : ∃ V, V = w.alloc (.cells #[.slice (some ⟨g, off, none⟩) len cap] 39) := ⟨_, rfl⟩
  have BV : Below w.heap.size w V := by rw [hV]; exact (Below.refl _ _).alloc (Nat.le_refl _) _
  have RV : Row V w.heap.size 39 #[.slice (some ⟨g, off, none⟩) len cap] := by rw [hV]; exact Row.new _ _ _
  have CT : Hid (∀ W, Calls Tryz.prog 60 #[.agg (cfC c), .int .i64 n] W fun e w' => e = .returned (.int .i64 (Cfm.stripeN c n)) ∧ Below W.heap.size W w') := show ∀ W, _ from fun W => stripe_any c n W hn
  have CS : Hid (∀ W, Below V.heap.size V W → Calls Tryz.prog 58 #[.pointer (some ⟨pv, 0, none⟩), v, .int .i64 (Cfm.stripeN c n), .int .i64 epoch, .func (.func 77) #[] #[.pointer (some ⟨w.heap.size, 0, none⟩)]] W (SlP w (slE id (Cfm.stripeN c n) epoch (fun d => ps.getD d.toNat ⟨#[]⟩) l) (slL id (Cfm.stripeN c n) epoch (fun d => ps.getD d.toNat ⟨#[]⟩) l))) := show ∀ W, _ → _ from fun W hW =>
    (ssseal_any (h.below (below_step BV hW)) (Cfm.stripeN c n) epoch (fun d => ps.getD d.toNat ⟨#[]⟩) l v base w.heap.size (own_kept ho (Fr.of_below (fp := []) (below_step BV hW)) (by simp)) hl hk (fun W' hW' d hdl => by
      obtain ⟨h1, h2⟩ := hd d hdl
      obtain ⟨k, rfl⟩ := Int.eq_ofNat_of_zero_le h1
      have hall := below_step (below_step BV hW) hW'
      exact sclo_any (((RV.kept (Fr.of_below (fp := []) hW) (by simp)).kept (Fr.of_below (fp := []) hW') (by simp)).cell rfl) k (by omega) (by rw [Int.toNat_natCast]; exact hp W' hall k (by omega)))).mono fun e w' hh => hh.up (below_step BV hW)
  have hva : w.alloc (.cells #[.slice (some ⟨g, off, none⟩) len cap] 39) = V := hV.symm
  have x1 : V.cell? ⟨pv, 1, none⟩ = some (.int .i64 c.k) := (h.below BV).row.cell rfl
  have x2 : V.cell? ⟨pv, 2, none⟩ = some (.int .i64 c.m) := (h.below BV).row.cell rfl
  have x3 : V.cell? ⟨pv, 3, none⟩ = some (.int .i64 c.sh) := (h.below BV).row.cell rfl
  have x4 : V.cell? ⟨pv, 4, none⟩ = some (.int .i64 c.st) := (h.below BV).row.cell rfl
  have x5 : V.cell? ⟨pv, 5, none⟩ = some (.int .i64 c.sl) := (h.below BV).row.cell rfl
  obtain ⟨va, vc, hve⟩ : ∃ va vc, v = .slice va l.length vc := by
    obtain ⟨a, cp, e, _⟩ := own_zcs ho
    exact ⟨a, cp, e⟩
  generalize slE id (Cfm.stripeN c n) epoch (fun d => ps.getD d.toNat ⟨#[]⟩) l = E at CS ⊢
  generalize slL id (Cfm.stripeN c n) epoch (fun d => ps.getD d.toNat ⟨#[]⟩) l = R at CS ⊢
  generalize Cfm.stripeN c n = P at CT CS
  obtain ⟨ck, cm, csh, cst, csl⟩ := c
  rw [cfC] at CT
  dsimp only at CT x1 x2 x3 x4 x5
  subst hve
  clear h ho hk hp hd hV BV RV
  go_enter Tryz.func36, Tryz.ntmps36
  go_wp2_with fail
  refine Calls.mono (CT.out _) ?_
  rintro e w1 ⟨rfl, hb⟩
  have C2 : Hid (_) := CS.out w1 (by first | exact hb | (rw [hva] at hb; exact hb))
  clear hb x1 x2 x3 x4 x5 CT CS
  go_wp2_with fail
  refine Calls.mono C2.out ?_
  rintro e w2 hh
  have HH : Hid (SlP w E R e w2) := hh
  rcases hh with ⟨_, ⟨_, v', rfl, _⟩ | ⟨_, rfl⟩⟩
  · clear C2
    go_wp2
    go_ret2
    exact HH.out
  · clear C2
    go_wp2
    go_ret2
    exact HH.out
end Go.Proofs.YtbmjcnmgignaoaaGreatDoor

/- What intent's Write and its closure return, and the document's Write. -/
namespace Go.Proofs.YtbmjcnmgignaoaaGreatDoor
open Go.RowKit Vecm Opened Wirem Txt Frm Blkm Intm
open Crcm (bys)
set_option linter.unusedVariables false

/-- What Write has gathered yet, in two cells of its own. -/
def WrAt (W : World) (bf bs : Nat) (x : ByteArray × Int) : Prop :=
  Row W bf 23 #[.int .i64 x.2] ∧ Row W bs 9 #[.string x.1] ∧ bf ≠ bs

def IWrP (W : World) (bf bs : Nat) (x : ByteArray × Int) (e : Ending) (w' : World) : Prop :=
  e = .returned (.tuple #[]) ∧ Fr [bf, bs] W w' ∧ WrAt w' bf bs x

set_option maxRecDepth 100000 in
set_option maxHeartbeats 1000000 in
theorem wradd_any (W : World) (bf bs : Nat) (x : ByteArray × Int) (f : ByteArray) (e0 : Int) (h : WrAt W bf bs x) (hz : x.1.size + f.size ≤ 9223372036854775807) :
    Calls Tryz.prog 126 #[.string f, .int .i64 e0, .pointer (some ⟨bf, 0, none⟩), .pointer (some ⟨bs, 0, none⟩)] W (IWrP W bf bs (stp x f e0)) := by
  obtain ⟨s, e⟩ := x
  obtain ⟨h1, h2, h3⟩ := h
  have hc1 : W.cell? ⟨bf, 0, none⟩ = some (.int .i64 e) := h1.cell rfl
  have hc2 : W.cell? ⟨bs, 0, none⟩ = some (.string s) := h2.cell rfl
  by_cases c : e = 0
  · subst c
    rw [stp_yes _ _ rfl]
    have hz2 : W.frozen? ⟨bs, 0, none⟩ = false := h2.frozen
    have h2' := Row.set h2 0 (.string (s ++ f))
    have h1' := h1.other (g' := bs) (i := 0) h3 (.string (s ++ f))
    have hc1' : (W.setCell ⟨bs, 0, none⟩ (.string (s ++ f))).cell? ⟨bf, 0, none⟩ = some (.int .i64 0) := h1'.cell rfl
    have hz1' : (W.setCell ⟨bs, 0, none⟩ (.string (s ++ f))).frozen? ⟨bf, 0, none⟩ = false := h1'.frozen
    have h1'' := Row.set h1' 0 (.int .i64 e0)
    have h2'' := h2'.other (g' := bf) (i := 0) (Ne.symm h3) (.int .i64 e0)
    have HD : Hid (IWrP W bf bs (s ++ f, e0) (.returned (.tuple #[])) ((W.setCell ⟨bs, 0, none⟩ (.string (s ++ f))).setCell ⟨bf, 0, none⟩ (.int .i64 e0))) :=
      show IWrP _ _ _ _ _ _ from ⟨rfl, ((Fr.refl [bf, bs] W).setCell (.inl (by simp)) _).setCell (.inl (by simp)) _, h1'', h2'', h3⟩
    have hj : ¬ 9223372036854775807 < (s.size : Int) + (f.size : Int) := by have : s.size + f.size ≤ 9223372036854775807 := hz; omega
    clear h1 h2 h3 h1' h2' h1'' h2'' hz
    go_enter Tryz.func126, Tryz.ntmps126
    go_wp2
    go_end0
    exact HD.out
  · rw [stp_no _ _ c]
    have hne : (e == 0) = false := by rw [beq_eq_false_iff_ne]; exact c
    have HD : Hid (IWrP W bf bs (s, e) (.returned (.tuple #[])) W) := show IWrP _ _ _ _ _ _ from ⟨rfl, Fr.refl _ _, h1, h2, h3⟩
    clear h1 h2 h3 hz
    go_enter Tryz.func126, Tryz.ntmps126
    go_wp2
    go_end0
    exact HD.out

def itC (i : It) : Array Value := #[.int .i64 i.seq, .int .i64 i.stripe, .string i.text]
structure ItOk (i : It) : Prop where
  s : i.seq ≤ 9223372036854775807
  n : i.stripe ≤ 9223372036854775807
  t : i.text.size ≤ 140737488355328

def Wrd (w W : World) (b : It) (x : ByteArray × Int) : Prop := Below w.heap.size w W ∧ WrAt W (w.heap.size + 1 + 1) (w.heap.size + 1) x ∧ Row W w.heap.size 75 (itC b)
theorem Wrd.put {w W W' : World} {b : It} {x : ByteArray × Int} (h : Wrd w W b x) (hb : Below W.heap.size W W') : Wrd w W' b x := by
  have hf : Fr [] W W' := Fr.of_below hb
  exact ⟨h.1.trans (hb.mono h.1.size), ⟨h.2.1.1.kept hf (by simp), h.2.1.2.1.kept hf (by simp), h.2.1.2.2⟩, h.2.2.kept hf (by simp)⟩
theorem Wrd.add {w W W' : World} {b : It} {x y : ByteArray × Int} {e : Ending} (h : Wrd w W b x) (ha : IWrP W (w.heap.size + 1 + 1) (w.heap.size + 1) y e W') : Wrd w W' b y := by
  obtain ⟨e1, hf, hs⟩ := ha
  refine ⟨h.1.trans (hf.below (fun k hk => ?_) h.1.size), hs, h.2.2.kept hf ?_⟩
  · simp only [List.mem_cons, List.not_mem_nil, or_false] at hk
    omega
  · simp only [List.mem_cons, List.not_mem_nil, or_false]
    omega

def WriteP (w : World) (b : It) (e : Ending) (w' : World) : Prop := e = .returned (.tuple #[.string (wrS b), .int .i64 (wrE b)]) ∧ Below w.heap.size w w'

set_option maxRecDepth 100000 in
set_option maxHeartbeats 2000000 in
theorem iwrite_any (b : It) (w : World) (h : ItOk b) : Calls Tryz.prog 79 #[.agg (itC b)] w (WriteP w b) := by
  obtain ⟨ha, hd, ht⟩ := h
  have hmf : ∀ (fn : Fn) (first cap : Array Value) (w : World), (Instr.makeFunc fn first cap).run Tryz.prog w = .ok (.func fn first cap) w := fun _ _ _ _ => rfl
  obtain ⟨V, hV⟩ : ∃ V, V = ((w.alloc (.cells (itC b) 75)).alloc (.cells #[.string mrk] 9)).alloc (.cells #[.int .i64 0] 23) := ⟨_, rfl⟩
  have S0 : Hid (Wrd w V b (mrk, 0)) := by
    rw [hV]
    refine show Wrd _ _ _ _ from ⟨(((Below.refl _ _).alloc (Nat.le_refl _) _).alloc (by simp) _).alloc (by simp; omega) _, ⟨?_, ?_, by omega⟩, ((Row.new w 75 (itC b)).alloc _).alloc _⟩
    · have := Row.new ((w.alloc (.cells (itC b) 75)).alloc (.cells #[.string mrk] 9)) 23 #[.int .i64 0]
      rwa [World.size_alloc, World.size_alloc] at this
    · have := Row.new (w.alloc (.cells (itC b) 75)) 9 #[.string mrk]
      rw [World.size_alloc] at this
      exact this.alloc _
  have z0 : (mrk, (0 : Int)).1.size = 3 := rfl
  have z1 := i1_size b
  have z2 := i2_size b
  have y0 := putS_size b.seq 7 (by omega)
  have y1 := putS_size b.stripe 2 (by omega)
  have y4 := textS_size b.text
  have C : Hid (∀ (W : World) (x : ByteArray × Int) (f : ByteArray) (e0 : Int), Wrd w W b x → x.1.size + f.size ≤ 9223372036854775807 → Calls Tryz.prog 126 #[.string f, .int .i64 e0, .pointer (some ⟨w.heap.size + 1 + 1, 0, none⟩), .pointer (some ⟨w.heap.size + 1, 0, none⟩)] W fun e w' => e = .returned (.tuple #[]) ∧ Wrd w w' b (stp x f e0)) :=
    show ∀ W x f e0, _ → _ → _ from fun W x f e0 hW hz => (wradd_any W _ _ x f e0 hW.2.1 hz).mono fun e w' hw => ⟨hw.1, hW.add hw⟩
  have HNO : Hid ((i3 b).2 ≠ 0 → wrS b = ⟨#[]⟩) := show _ → _ from fun h => if_neg h
  have HYES : Hid ((i3 b).2 = 0 → wrS b = (i3 b).1) := show _ → _ from fun h => if_pos h
  have HE : Hid (wrE b = (i3 b).2) := rfl
  have Z1 : Hid ((mrk, (0 : Int)).1.size + (putS b.seq 7).size ≤ 9223372036854775807) := show _ ≤ _ by omega
  have Z2 : Hid ((i1 b).1.size + (putS b.stripe 2).size ≤ 9223372036854775807) := show _ ≤ _ by omega
  have Z5 : Hid ((i2 b).1.size + (textS b.text).size ≤ 9223372036854775807) := show _ ≤ _ by omega
  have E1 : Hid (stp (mrk, 0) (putS b.seq 7) (putE b.seq 7) = i1 b) := rfl
  have E2 : Hid (stp (i1 b) (putS b.stripe 2) (putE b.stripe 2) = i2 b) := rfl
  have E5 : Hid (stp (i2 b) (textS b.text) (textE b.text) = i3 b) := rfl
  have FC : Hid (∀ W x, Wrd w W b x → W.cell? ⟨w.heap.size, 0, none⟩ = some (.int .i64 b.seq) ∧ W.cell? ⟨w.heap.size, 1, none⟩ = some (.int .i64 b.stripe) ∧ W.cell? ⟨w.heap.size, 2, none⟩ = some (.string b.text)) :=
    show ∀ W x, _ → _ from fun W x h => ⟨h.2.2.cell rfl, h.2.2.cell rfl, h.2.2.cell rfl⟩
  have FS : Hid (∀ W x, Wrd w W b x → W.cell? ⟨w.heap.size + 1, 0, none⟩ = some (.string x.1) ∧ W.cell? ⟨w.heap.size + 1 + 1, 0, none⟩ = some (.int .i64 x.2)) :=
    show ∀ W x, _ → _ from fun W x h => ⟨h.2.1.2.1.cell rfl, h.2.1.1.cell rfl⟩
  clear z0 z1 z2 y0 y1 y4
  obtain ⟨xs, hxs⟩ : ∃ xs, xs = (i3 b).1 := ⟨_, rfl⟩
  obtain ⟨xe, hxe⟩ : ∃ xe, xe = (i3 b).2 := ⟨_, rfl⟩
  rw [← hxs] at HYES
  rw [← hxe] at HE HNO HYES
  have HX : Hid (xs = (i3 b).1) := hxs
  have HXE : Hid (xe = (i3 b).2) := hxe
  clear hxs hxe
  have HV : Hid (V = _) := hV
  clear hV
  rw [itC]
  go_enter Tryz.func79, Tryz.ntmps79
  go_wp2_with fail
  refine Calls.mono (put_any b.seq 7 _ ha) ?_
  rintro e w1 ⟨rfl, hb1⟩
  have S1 : Hid (Wrd w w1 b (mrk, 0)) := by
    refine S0.out.put ?_
    rw [HV.out]
    exact hb1
  clear hb1 S0 HV
  unfold putV
  go_wp2_with fail
  refine Calls.mono (C.out _ _ _ _ S1.out Z1.out) ?_
  rintro e w2 ⟨rfl, hs⟩
  rw [E1.out] at hs
  obtain ⟨c0, c1, c2⟩ := FC.out _ _ hs
  have S2 : Hid (Wrd w w2 b (i1 b)) := hs
  clear hs S1
  go_wp2_with fail
  refine Calls.mono (put_any b.stripe 2 _ hd) ?_
  rintro e w3 ⟨rfl, hb⟩
  have S3 : Hid (Wrd w w3 b (i1 b)) := S2.out.put hb
  clear hb S2 c0 c1 c2
  unfold putV
  go_wp2_with fail
  refine Calls.mono (C.out _ _ _ _ S3.out Z2.out) ?_
  rintro e w4 ⟨rfl, hs⟩
  rw [E2.out] at hs
  obtain ⟨c0, c1, c2⟩ := FC.out _ _ hs
  have S4 : Hid (Wrd w w4 b (i2 b)) := hs
  clear hs S3
  go_wp2_with fail
  refine Calls.mono (text_any b.text _ ht) ?_
  rintro e w9 ⟨rfl, hb⟩
  have S9 : Hid (Wrd w w9 b (i2 b)) := S4.out.put hb
  clear hb S4 c0 c1 c2
  unfold textV
  go_wp2_with fail
  refine Calls.mono (C.out _ _ _ _ S9.out Z5.out) ?_
  rintro e w10 ⟨rfl, hs⟩
  rw [E5.out] at hs
  have S10 : Hid (Wrd w w10 b (i3 b)) := hs
  clear hs S9
  obtain ⟨cs, ce⟩ := FS.out _ _ S10.out
  rw [← HX.out] at cs
  rw [← HXE.out] at ce
  have HBL : Hid (Below w.heap.size w w10) := S10.out.1
  clear S10 E1 E2 E5 Z1 Z2 Z5 C FC FS hmf HX HXE
  by_cases c : xe = 0
  · have hh : xe = 0 := c
    subst c
    have HY : Hid (wrS b = xs) := HYES.out rfl
    clear HYES HNO hh
    go_wp2
    (try (go_quiet (fail); go_wp2))
    go_ret2
    first | exact ⟨by rw [HE.out, HY.out]; rfl, HBL.out⟩ | exact ⟨by rw [HE.out, HY.out]; rfl, below_drewN HBL.out _⟩
  · have hne : (xe != 0) = true := by rw [bne_iff_ne]; exact c
    have HY : Hid (wrS b = ⟨#[]⟩) := HNO.out c
    clear c
    go_wp2
    (try (go_quiet (fail); go_wp2))
    go_ret2
    first | exact ⟨by rw [HE.out, HY.out]; rfl, HBL.out⟩ | exact ⟨by rw [HE.out, HY.out]; rfl, below_drewN HBL.out _⟩

theorem WriteP.no {w : World} {b : It} {k : Int} (h : wrE b = k) (hk : k ≠ 0) {w' : World} (hb : Below w.heap.size w w') : WriteP w b (.returned (.tuple #[.string ⟨#[]⟩, .int .i64 k])) w' :=
  ⟨by rw [wrS_no (by rw [h]; exact hk), h], hb⟩

end Go.Proofs.YtbmjcnmgignaoaaGreatDoor

/- What records returns. -/
namespace Go.Proofs.YtbmjcnmgignaoaaGreatDoor
open Go.RowKit Vecm Opened Wirem Txt Frm Diskm Arym Volm Intm
open Blkm (Bk bk0 owE owB sealE sealS)
open Cfm (Cf)
open Crcm (bys)
set_option linter.unusedVariables false

theorem SlP.is {w w' : World} {E : Int} {l : List It} {e : Ending} (h : SlP w E l e w') : ∃ v, e = .returned (.tuple #[v, .int .i64 E]) ∧ SlP w E l (.returned (.tuple #[v, .int .i64 E])) w' := by
  obtain ⟨h1, h2⟩ := h
  rcases h2 with ⟨h2, v, h3, h4⟩ | ⟨h2, h3⟩
  · subst h2; exact ⟨v, h3, h1, .inl ⟨rfl, v, rfl, h4⟩⟩
  · exact ⟨_, h3, h1, .inr ⟨h2, rfl⟩⟩
/-- One intent, for these disks. -/
def rcE (c : Cf) (id : Int) (i : It) (l : List Int) : Int := if Intm.wrE i = 0 then slE id (Cfm.slotN c i.seq) i.seq (fun _ => Intm.wrS i) l else Intm.wrE i
def rcL (c : Cf) (id : Int) (i : It) (l : List Int) : List It := slL id (Cfm.slotN c i.seq) i.seq (fun _ => Intm.wrS i) l

set_option maxRecDepth 100000 in
set_option maxHeartbeats 4000000 in
theorem records_any {w : World} {pv pa : Nat} {fp : List Nat} {A : Ar} {c : Cf} {id seq : Int} (h : IsW w pv pa fp A c id seq) (i : It) (hi : ItOk i) (l : List Int) (v : Value) (base : Nat)
    (ho : w.ownsRow base 3 1 v l.length (zcs l)) (hl : l.length ≤ 1000) (hk : ∀ d ∈ l, BkOk (bkOf id (Cfm.slotN c i.seq) i.seq (fun _ => Intm.wrS i) d)) (hq : i.seq ≤ 9223372036854775807) :
    Calls Tryz.prog 39 #[.pointer (some ⟨pv, 0, none⟩), v, .agg (itC i)] w (SlP w (rcE c id i l) (rcL c id i l)) := by
  have hmf : ∀ (fn : Fn) (first cap : Array Value) (w : World), (Instr.makeFunc fn first cap).run Tryz.prog w = .ok (.func fn first cap) w := fun _ _ _ _ => rfl
  have CI : Hid (∀ W, Calls Tryz.prog 79 #[.agg (itC i)] W fun e w' => e = .returned (.tuple #[.string (Intm.wrS i), .int .i64 (Intm.wrE i)]) ∧ Below W.heap.size W w') := show ∀ W, _ from fun W => iwrite_any i W hi
  have CT : Hid (∀ W, Calls Tryz.prog 80 #[.agg (cfC c), .int .i64 i.seq] W fun e w' => e = .returned (.int .i64 (Cfm.slotN c i.seq)) ∧ Below W.heap.size W w') := show ∀ W, _ from fun W => slot_any c _ W hq
  have CS : Hid (∀ W B, Below w.heap.size w W → W.cell? ⟨B, 0, none⟩ = some (.string (Intm.wrS i)) → B < W.heap.size → Calls Tryz.prog 58 #[.pointer (some ⟨pv, 0, none⟩), v, .int .i64 (Cfm.slotN c i.seq), .int .i64 i.seq, .func (.func 81) #[] #[.pointer (some ⟨B, 0, none⟩)]] W fun e w' => SlP w (slE id (Cfm.slotN c i.seq) i.seq (fun _ => Intm.wrS i) l) (slL id (Cfm.slotN c i.seq) i.seq (fun _ => Intm.wrS i) l) e w' ∧ Below W.heap.size W w') := show ∀ W B, _ → _ → _ → _ from fun W B hW hB hBl =>
    (rsseal_any (h.below hW) _ _ (fun _ => Intm.wrS i) l v base B (own_kept ho (Fr.of_below (fp := []) hW) (by simp)) hl hk (fun W' hW' d _ => rclo_any (by rw [hW'.cell (by exact hBl)]; exact hB) d)).mono fun e w' hh => ⟨hh.up hW, hh.1⟩
  have H0 : Hid (IsW w pv pa fp A c id seq) := h
  obtain ⟨va, vc, hve⟩ : ∃ va vc, v = .slice va l.length vc := by
    obtain ⟨a, cp, e, _⟩ := own_zcs ho
    exact ⟨a, cp, e⟩
  have HNO : Hid (Intm.wrE i ≠ 0 → rcE c id i l = Intm.wrE i) := show _ → _ from fun h => if_neg h
  have HYE : Hid (Intm.wrE i = 0 → rcE c id i l = slE id (Cfm.slotN c i.seq) i.seq (fun _ => Intm.wrS i) l) := show _ → _ from fun h => if_pos h
  generalize rcE c id i l = RE at HNO HYE ⊢
  unfold rcL
  generalize slE id (Cfm.slotN c i.seq) i.seq (fun _ => Intm.wrS i) l = E at CS HYE
  generalize slL id (Cfm.slotN c i.seq) i.seq (fun _ => Intm.wrS i) l = R at CS ⊢
  generalize Cfm.slotN c i.seq = P at CT CS
  generalize Intm.wrS i = s at CI CS
  generalize Intm.wrE i = E1 at CI HNO HYE
  obtain ⟨i0, i1, i2⟩ := i
  rw [itC] at CI ⊢
  dsimp only at CI CT CS hq ⊢
  obtain ⟨ck, cm, csh, cst, csl⟩ := c
  rw [cfC] at CT
  dsimp only at CT
  subst hve
  have HR0 : Hid (Row (w.alloc (.cells #[.int .i64 i0, .int .i64 i1, .string i2] 75)) w.heap.size 75 #[.int .i64 i0, .int .i64 i1, .string i2]) := Row.new _ _ _
  have HB0 : Hid (Below w.heap.size w (w.alloc (.cells #[.int .i64 i0, .int .i64 i1, .string i2] 75))) := (Below.refl _ _).alloc (Nat.le_refl _) _
  clear h ho hk hi
  go_enter Tryz.func39, Tryz.ntmps39
  go_wp2_with fail
  refine Calls.mono (CI.out _) ?_
  rintro e w1 ⟨rfl, hb⟩
  have b1 : Below w.heap.size w w1 := below_step HB0.out hb
  have HR1 : Hid (Row (w1.alloc (.cells #[.string s] 9)) w.heap.size 75 #[.int .i64 i0, .int .i64 i1, .string i2]) := (HR0.out.kept (Fr.of_below (fp := []) hb) (by simp)).alloc _
  have HB1 : Hid (Below w.heap.size w (w1.alloc (.cells #[.string s] 9))) := b1.alloc b1.size _
  have HS1 : Hid (Row (w1.alloc (.cells #[.string s] 9)) w1.heap.size 9 #[.string s]) := Row.new _ _ _
  clear hb b1 CI HR0 HB0
  by_cases hE : E1 = 0
  case neg =>
    have HF := show Hid (_) from HNO.out hE
    have hne : (E1 != 0) = true := by rw [bne_iff_ne]; exact hE
    have HN : Hid (E1 ≠ 0) := hE
    clear hE
    go_wp2
    go_ret2
    exact ⟨HB1.out, .inr ⟨HF.out ▸ HN.out, congrArg (fun x => Ending.returned (.tuple #[.slice none 0 0, .int .i64 x])) HF.out.symm⟩⟩
  have HF := show Hid (_) from HYE.out hE
  subst hE
  obtain ⟨U, hU⟩ : ∃ U, U = w1.alloc (.cells #[.string s] 9) := ⟨_, rfl⟩
  rw [← hU] at HR1 HB1 HS1
  have hua : w1.alloc (.cells #[.string s] 9) = U := hU.symm
  have HCL : Hid (∀ W, Below U.heap.size U W → Below U.heap.size U W ∧ W.cell? ⟨pv, 1, none⟩ = some (.int .i64 ck) ∧ W.cell? ⟨pv, 2, none⟩ = some (.int .i64 cm) ∧ W.cell? ⟨pv, 3, none⟩ = some (.int .i64 csh) ∧ W.cell? ⟨pv, 4, none⟩ = some (.int .i64 cst) ∧ W.cell? ⟨pv, 5, none⟩ = some (.int .i64 csl) ∧ W.cell? ⟨w.heap.size, 0, none⟩ = some (.int .i64 i0)) := show ∀ W, _ → _ from fun W hW => by
    have hr := (H0.out.below (below_step HB1.out hW)).row
    exact ⟨hW, hr.cell rfl, hr.cell rfl, hr.cell rfl, hr.cell rfl, hr.cell rfl, (HR1.out.kept (Fr.of_below (fp := []) hW) (by simp)).cell rfl⟩
  have CSU : Hid (∀ W, Below U.heap.size U W → Calls Tryz.prog 58 #[.pointer (some ⟨pv, 0, none⟩), .slice va l.length vc, .int .i64 P, .int .i64 i0, .func (.func 81) #[] #[.pointer (some ⟨w1.heap.size, 0, none⟩)]] W fun e w' => ∃ v', e = .returned (.tuple #[v', .int .i64 E]) ∧ SlP w E R (.returned (.tuple #[v', .int .i64 E])) w' ∧ Below U.heap.size U w') := show ∀ W, _ → _ from fun W hW =>
    (CS.out W w1.heap.size (below_step HB1.out hW) ((HS1.out.kept (Fr.of_below (fp := []) hW) (by simp)).cell rfl) (Nat.lt_of_lt_of_le HS1.out.lt hW.size)).mono fun e w' ⟨hh, hz⟩ => by obtain ⟨v', e1, e2⟩ := hh.is; exact ⟨v', e1, e2, below_step hW hz⟩
  have HBD : Hid (Below U.heap.size U U.drew) := Below.drew (Below.refl _ _)
  clear hU CS HR1 HS1 H0
  go_wp2
  go_region_held3 (fun W => Below U.heap.size U W ∧ W.cell? ⟨pv, 1, none⟩ = some (.int .i64 ck) ∧ W.cell? ⟨pv, 2, none⟩ = some (.int .i64 cm) ∧ W.cell? ⟨pv, 3, none⟩ = some (.int .i64 csh) ∧ W.cell? ⟨pv, 4, none⟩ = some (.int .i64 cst) ∧ W.cell? ⟨pv, 5, none⟩ = some (.int .i64 csl) ∧ W.cell? ⟨w.heap.size, 0, none⟩ = some (.int .i64 i0))
    (first | exact HCL.out _ HBD.out | exact HCL.out _ (Hid.out (by assumption)))
    (first
      | (go_at_call 80; refine Calls.mono (CT.out _) ?_; rintro e w3 ⟨rfl, b3⟩; have HB3 := show Hid (Below U.heap.size U w3) from Below.trans (And.left (by assumption)) (Below.mono b3 (Below.size (And.left (by assumption)))); clear b3)
      | (go_at_call 58; refine Calls.mono (CSU.out _ HB3.out) ?_; rintro e w4 ⟨v', rfl, hs4, hb4⟩; have HB4 := show Hid (Below U.heap.size U w4) from hb4; clear hb4; have HS4 := show Hid (SlP w E R (.returned (.tuple #[v', .int .i64 E])) w4) from hs4; clear hs4))
  all_goals go_wp2
  all_goals go_ret2
  all_goals (rw [HF.out]; exact HS4.out)
end Go.Proofs.YtbmjcnmgignaoaaGreatDoor

/- What the document's Identity returns, and Pick, of the program and of the document. -/
namespace Go.Proofs.YtbmjcnmgignaoaaGreatDoor
open Go.RowKit Vecm Opened Tab Lin
set_option linter.unusedVariables false

def pickF (a : List ByteArray) (rows : List Int) (i : Nat) : Value := .string (row a (rows.getD i 0).toNat)
theorem pick_no {a : List ByteArray} {rows : List Int} (h : pickB a rows = false) : pickS a rows = [] ∧ pickE a rows = 1 := ⟨if_neg (by rw [h]; simp), if_neg (by rw [h]; simp)⟩
theorem pick_yes {a : List ByteArray} {rows : List Int} (h : pickB a rows = true) : pickS a rows = pickT a rows ∧ pickE a rows = 0 := ⟨if_pos h, if_pos h⟩
theorem pickT_row {a : List ByteArray} {rows : List Int} {i : Nat} (h : i < rows.length) : row (pickT a rows) i = row a (rows.getD i 0).toNat := by simp [row, pickT, List.getD, h]
theorem pickT_length (a : List ByteArray) (rows : List Int) : (pickT a rows).length = rows.length := by simp [pickT]
theorem pickB_bad {a : List ByteArray} {rows : List Int} {k : Nat} (hk : k < rows.length) (h : rows.getD k 0 < 0 ∨ (a.length : Int) ≤ rows.getD k 0) : pickB a rows = false := by
  rw [← Bool.not_eq_true]
  intro hx
  have := (pick_is hx).2.2.2 k hk
  omega

set_option maxRecDepth 100000 in
set_option maxHeartbeats 1000000 in
theorem pick_any (a a' : Option Addr) (n cap n' cap' : Nat) (ss : List ByteArray) (rows : List Int) (w : World) (h : IsS w a n ss) (h' : IsI w a' n' rows) :
    Told Tryz.prog 163 #[.slice a n cap, .slice a' n' cap'] w (pickS ss rows) (pickE ss rows) := by
  unfold Told
  have hn2 := IsS.len h
  have hm2 := IsI.len h'
  have hmay := may_any a n cap ss w h
  by_cases hz : mayB ss = true
  case neg =>
    rw [Bool.not_eq_true] at hz
    have hno := pick_no (a := ss) (rows := rows) (by rw [pickB, hz]; rfl)
    rw [hno.1, hno.2]
    rw [hz] at hmay
    have HM : Hid (_) := hmay
    clear hno hmay
    go_enter Tryz.func163, Tryz.ntmps163
    go_wp2_with (go_at_call 200; refine same HM.out ?_)
    go_ret2
    exact ⟨_, _, _, rfl, IsS.nil _ _, Below.refl _ _⟩
  rw [hz] at hmay
  have HM : Hid (_) := hmay
  clear hmay
  by_cases hs : sizeB (n' : Int) = true
  case neg =>
    rw [Bool.not_eq_true] at hs
    have hno := pick_no (a := ss) (rows := rows) (by rw [pickB, h'.1, hs]; simp)
    rw [hno.1, hno.2]
    clear hno
    go_enter Tryz.func163, Tryz.ntmps163
    go_wp2_with (first | (go_at_call 200; refine same HM.out ?_) | (go_at_call 192; refine same (maysize_any _ _) ?_; rw [hs]))
    go_ret2
    exact ⟨_, _, _, rfl, IsS.nil _ _, Below.refl _ _⟩
  have hn' : 1 ≤ n' ∧ n' ≤ 255 := by simp only [sizeB, decide_eq_true_eq] at hs; omega
  obtain ⟨m1, m2, m3, m4, m5⟩ := may_is hz
  obtain ⟨rfl, _, _, hc⟩ := h
  obtain ⟨rfl, hi64, _, hc'⟩ := h'
  obtain ⟨b, off, rfl, hb, hcell⟩ := hc (by omega)
  obtain ⟨b', off', rfl, hb', hcell'⟩ := hc' (by omega)
  have HC : Hid (_) := hcell
  have HC' : Hid (_) := hcell'
  have HI : Hid (_) := hi64
  have M5 : Hid (_) := m5
  clear hcell hcell' hc hc' hi64 m5
  have hmk := make_strings rows.length (by omega) w
  rw [made_rowV _ (pickF ss rows)] at hmk
  go_enter Tryz.func163, Tryz.ntmps163
  go_wp2_with (first | (go_at_call 200; refine same HM.out ?_) | (go_at_call 192; refine same (maysize_any _ _) ?_; rw [hs]))
  clear hmk
  go_loopw [23] (fun i wr => ∃ k : Nat, k ≤ rows.length ∧ i = .int .i64 k ∧ Below w.heap.size w wr ∧ w.heap.size < wr.heap.size ∧ wr.heap[w.heap.size]? = some (.cells (rowV (.string ByteArray.empty) (pickF ss rows) rows.length k) 9 (0, 0)) ∧ ∀ j, j < k → 0 ≤ rows.getD j 0 ∧ rows.getD j 0 < (ss.length : Int)) (fun i _ => rows.length - (intOf i).toNat)
  case atStart => exact ⟨0, by omega, rfl, (Below.refl _ _).alloc (Nat.le_refl _) _, by simp, heap_last _ _, fun j hj => by omega⟩
  case round =>
    obtain ⟨k, hk, rfl, hbel, hsz, hh, hall⟩ := hrel
    have HB : Hid (_) := hbel
    have HH : Hid (_) := hh
    have HA : Hid (_) := hall
    clear hbel hh hall
    by_cases hlt : k < rows.length
    · obtain ⟨r, hr⟩ : ∃ r, r = rows.getD k 0 := ⟨_, rfl⟩
      have hcx : wr.cell? ⟨b', off' + k, none⟩ = some (.int .i64 r) := by rw [hr, HB.out.cell (by exact hb')]; exact HC'.out k hlt
      have hr64 : -9223372036854775808 ≤ r ∧ r ≤ 9223372036854775807 := by
        rw [hr]; simp only [List.getD, hlt, List.getElem?_eq_getElem, Option.getD_some]; exact HI.out _ (List.getElem_mem hlt)
      have HR : Hid (_) := hr
      clear hr
      by_cases r0 : r < 0
      · have hno := pick_no (pickB_bad (a := ss) hlt (by rw [← HR.out]; exact Or.inl r0))
        have HNO : Hid (_) := hno
        clear hno
        go_wp2
        go_ret2
        rw [HNO.out.1, HNO.out.2]
        exact ⟨_, _, _, rfl, IsS.nil _ _, HB.out⟩
      by_cases r1 : (ss.length : Int) ≤ r
      · have hno := pick_no (pickB_bad (a := ss) hlt (by rw [← HR.out]; exact Or.inr r1))
        have HNO : Hid (_) := hno
        clear hno
        go_wp2
        go_ret2
        rw [HNO.out.1, HNO.out.2]
        exact ⟨_, _, _, rfl, IsS.nil _ _, HB.out⟩
      obtain ⟨q, rfl⟩ := Int.eq_ofNat_of_zero_le (show 0 ≤ r by omega)
      have hq : q < ss.length := by omega
      obtain ⟨s, hs⟩ : ∃ s, s = row ss q := ⟨_, rfl⟩
      have hcy : wr.cell? ⟨b, off + q, none⟩ = some (.string s) := by rw [hs, HB.out.cell (by exact hb)]; exact HC.out q hq
      have HK : Hid (pickF ss rows k = .string s) := show _ by rw [pickF, ← HR.out, hs]; rfl
      clear hs
      obtain ⟨old, hold⟩ : ∃ v, wr.cell? ⟨w.heap.size, k, none⟩ = some v := ⟨_, by rw [cell_of_row _ _ _ _ _ _ HH.out, rowV_get _ _ _ hlt]⟩
      have hfz := frozen_of_row (j := k) HH.out
      go_wp2
      have e1 := setCell_eq_setRow wr w.heap.size k (rowV (.string ByteArray.empty) (pickF ss rows) rows.length k) 9 (0, 0) (pickF ss rows k) HH.out
      rw [rowV_set _ _ hlt, HK.out] at e1
      rw [e1]
      go_roundw
      case rel => exact ⟨k + 1, by omega, by go_num, below_setRow HB.out (Nat.le_refl _) _, by simpa using hsz, setRow_heap _ _ _ _ _ _ HH.out, fun j hj => if e : j = k then by rw [e, ← HR.out]; omega else HA.out j (by omega)⟩
      case measure => simp [intOf]; omega
    · have hk' : k = rows.length := by omega
      subst hk'
      have hyes := pick_of (rows := rows) (show Is ss.length (row ss 0).size ss from ⟨rfl, M5.out.2⟩) m1 m2 m3 m4 hn'.1 hn'.2 (fun r hr => by
        obtain ⟨i, hi, rfl⟩ := List.getElem_of_mem hr
        have := HA.out i hi
        simpa [List.getD, hi] using this)
      have hy2 := pick_yes hyes.1
      have h2 := made_isS wr w.heap.size 0 (pickF ss rows) (pickT ss rows) (by rw [pickT_length]; exact HH.out) (fun i hi => by rw [pickT_length] at hi; rw [pickT_row hi]; rfl) (by rw [pickT_length]; omega) (fun i hi => by
        rw [pickT_length] at hi
        have := HA.out i hi
        rw [pickT_row hi, M5.out.2 _ (by omega)]; omega)
      rw [pickT_length] at h2
      have HY : Hid (_) := hy2
      clear hyes hy2
      go_wp2
      go_ret2
      rw [HY.out.1, HY.out.2]
      exact ⟨_, _, _, rfl, h2, HB.out⟩

end Go.Proofs.YtbmjcnmgignaoaaGreatDoor

/- What Mul returns, of the program and of the document. -/
namespace Go.Proofs.YtbmjcnmgignaoaaGreatDoor
open Go.RowKit Vecm Opened Tab Lin
set_option linter.unusedVariables false

/-- A text's bytes as a row of the call's own. -/
theorem to_bytes (s : ByteArray) (n : Nat) (hn : s.size = n) (w : World) : ∃ w1 cap, Sem.run Tryz.prog (convert 9 142 (.string s)) w = .ok (.slice (some ⟨w.heap.size, 0, none⟩) n cap) w1 ∧ Below w.heap.size w w1 ∧ w.heap.size < w1.heap.size ∧
    ∀ i, i < n → w1.cell? ⟨w.heap.size, 0 + i, none⟩ = some (.int .u8 ((nums s).getD i 0)) := by
  subst hn
  refine ⟨_, _, run_bytes_of_string (P := Tryz.prog) w 9 142 5 s Tryz.underlying9 Tryz.underlying142 Tryz.underlying5, ((Below.refl _ _).drew).alloc (by simp) _, by simp, fun i hi => ?_⟩
  rw [Nat.zero_add]
  have h1 : (w.drew.alloc (.cells (bytesRow s (grownCap w s.size 0 5)) 5 ((bytesRow s (grownCap w s.size 0 5)).size, (bytesRow s (grownCap w s.size 0 5)).size + 1))).heap[w.heap.size]? = some (.cells (bytesRow s (grownCap w s.size 0 5)) 5 ((bytesRow s (grownCap w s.size 0 5)).size, (bytesRow s (grownCap w s.size 0 5)).size + 1)) := heap_last w.drew _
  rw [cell_of_row _ _ _ _ _ _ h1]

  simp [bytesRow, Array.getElem?_append, nums, List.getD, hi]

end Go.Proofs.YtbmjcnmgignaoaaGreatDoor

/- What the document's own Mul returns. -/
namespace Go.Proofs.YtbmjcnmgignaoaaGreatDoor
open Go.RowKit Vecm Opened Tab Lin
set_option linter.unusedVariables false

theorem own_below {B : Nat} {e : TypeId} {k : Nat} {v : Value} {n : Nat} {xs : List Value} {w w' : World} (h : w.ownsRow B e k v n xs) (hb : Below w.heap.size w w') : w'.ownsRow B e k v n xs := by
  refine ⟨h.1, ?_⟩
  rcases h.2 with h0 | ⟨g, cap, cur, h1, h2, h3, h4⟩
  · exact .inl h0
  · refine .inr ⟨g, cap, cur, h1, h2, ?_, h4⟩
    rw [hb.block g]; · exact h3
    rcases Nat.lt_or_ge g w.heap.size with k | k
    · exact k
    · rw [Array.getElem?_eq_none k] at h3; cases h3
theorem u8_bd (x : UInt8) : 0 ≤ (x.toNat : Int) ∧ (x.toNat : Int) ≤ 255 := by have := x.toNat_lt; omega

end Go.Proofs.YtbmjcnmgignaoaaGreatDoor
