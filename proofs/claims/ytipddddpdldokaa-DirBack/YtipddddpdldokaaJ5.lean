/- The program's stable sort, over elements of so many cells: what its functions lean on; swapRange. -/
import Derived.Test.YtipddddpdldokaaJ4
import Derived.Shelf.SlSortCmp.KitK
import Derived.Deep.LoopGhost
import Derived.Test.YtipddddpdldokaaProg

namespace Go.Proofs.Ytipddddpdldokaa
open Go.Shelf Go.RowKit Go.Lib Go.Sort Grpm Sbm
set_option linter.unusedVariables false

/-- What a program must have, and how many cells an element has. -/
structure SL (P : Program) (k : Nat) : Prop where
  mixed : P.follows .mixedOrders = true
  fI : P.funcs[64]? = some Try.f64
  fM : P.funcs[65]? = some Try.f65
  fR : P.funcs[69]? = some Try.f69
  fS : P.funcs[72]? = some Try.f72
  fT : P.funcs[55]? = some Try.f55
  eg : Enters P 34
  aE : ∀ w, (isAgg 37).run P w = .ok true w
  zE : ∀ w, (Go.sizeOf 37).run P w = .ok k w
  t0 : P.underlying 0 = some (.tuple #[])
  a0 : ∀ w, (isAgg 0).run P w = .ok false w
  z0 : ∀ w, (Go.sizeOf 0).run P w = .ok 1 w
  v0 : ∀ w, (zeroValue 0).run P w = .ok (.tuple #[]) w
  t3 : P.underlying 3 = some (.int .i64)
  a3 : ∀ w, (isAgg 3).run P w = .ok false w
  z3 : ∀ w, (Go.sizeOf 3).run P w = .ok 1 w
  v3 : ∀ w, (zeroValue 3).run P w = .ok (.int .i64 0) w
  t4 : P.underlying 4 = some .bool
  a4 : ∀ w, (isAgg 4).run P w = .ok false w
  z4 : ∀ w, (Go.sizeOf 4).run P w = .ok 1 w
  v4 : ∀ w, (zeroValue 4).run P w = .ok (.bool false) w
  t23 : P.underlying 27 = some (.slice 37)
  a23 : ∀ w, (isAgg 27).run P w = .ok false w
  z23 : ∀ w, (Go.sizeOf 27).run P w = .ok 1 w
  v23 : ∀ w, (zeroValue 27).run P w = .ok (.slice none 0 0) w
  t48 : P.underlying 91 = some (.int .u64)
  a48 : ∀ w, (isAgg 91).run P w = .ok false w
  z48 : ∀ w, (Go.sizeOf 91).run P w = .ok 1 w
  v48 : ∀ w, (zeroValue 91).run P w = .ok (.int .u64 0) w
  t84 : P.underlying 71 = some (.func #[37, 37] #[3] false)
  a84 : ∀ w, (isAgg 71).run P w = .ok false w
  z84 : ∀ w, (Go.sizeOf 71).run P w = .ok 1 w
  v84 : ∀ w, (zeroValue 71).run P w = .ok .nilFunc w

/-- A change's cells. -/
def encC (c : Ch) : List Value := [.string c.key, .string c.val, .bool c.gone]
theorem encC_length (c : Ch) : (encC c).length = 3 := rfl
theorem encC_one (c : Ch) : ∀ v ∈ encC c, v.oneCell' = true := by
  intro v hv
  simp only [encC, List.mem_cons, List.not_mem_nil, or_false] at hv
  rcases hv with rfl | rfl | rfl <;> rfl
set_option maxRecDepth 100000 in
theorem slOk : SL Try.prog 3 where
  mixed := by kernel_rfl
  fI := Try.func64
  fM := Try.func65
  fR := Try.func69
  fS := Try.func72
  fT := Try.func55
  eg := enters_of Try.func34 (by kernel_rfl) rfl
  aE := Try.isAgg37
  zE := Try.sizeOf37
  t0 := Try.underlying0
  a0 := Try.isAgg0
  z0 := Try.sizeOf0
  v0 := Try.zeroValue0
  t3 := Try.underlying3
  a3 := Try.isAgg3
  z3 := Try.sizeOf3
  v3 := Try.zeroValue3
  t4 := Try.underlying4
  a4 := Try.isAgg4
  z4 := Try.sizeOf4
  v4 := Try.zeroValue4
  t23 := Try.underlying27
  a23 := Try.isAgg27
  z23 := Try.sizeOf27
  v23 := Try.zeroValue27
  t48 := Try.underlying91
  a48 := Try.isAgg91
  z48 := Try.sizeOf91
  v48 := Try.zeroValue91
  t84 := Try.underlying71
  a84 := Try.isAgg71
  z84 := Try.sizeOf71
  v84 := Try.zeroValue71

section
variable [Inhabited Ch]
set_option maxHeartbeats 4000000 in
set_option maxRecDepth 1000000 in
/-- Two ranges of one size change places. -/
theorem swaprange_any {P : Program} {k : Nat} (L : SL P k) {enc : Ch → List Value} {w0 : World} {blk off cap N : Nat} {d0 : Array Ch} (R : RowK enc k w0 blk off d0) (A X M Y B : List Ch) (a b n : Nat) (fv : Value) (w : World)
    (ha : A.length = a) (hb : a + n + M.length = b) (hX : X.length = n) (hY : Y.length = n) (hs : d0.size = N) (hN : (A ++ (X ++ (M ++ (Y ++ B)))).length = N) (hsz : N ≤ 1000000) (S : SWK enc k w0 blk off (A ++ (X ++ (M ++ (Y ++ B)))).toArray w) :
    Calls P 72 #[.slice (some ⟨blk, off, none⟩) N cap, .int .i64 a, .int .i64 b, .int .i64 n, fv] w fun e w' => e = .returned (.tuple #[]) ∧ SWK enc k w0 blk off (A ++ (Y ++ (M ++ (X ++ B)))).toArray w' := by
  have mixed := L.mixed; have t0 := L.t0; have a0 := L.a0; have z0 := L.z0; have v0 := L.v0; have t3 := L.t3; have a3 := L.a3; have z3 := L.z3; have v3 := L.v3; have t4 := L.t4; have a4 := L.a4; have z4 := L.z4; have v4 := L.v4; have t23 := L.t23; have a23 := L.a23; have z23 := L.z23; have v23 := L.v23; have t84 := L.t84; have a84 := L.a84; have z84 := L.z84; have v84 := L.v84
  have aE := L.aE; have zE := L.zE
  have S0 : Aside (SWK enc k w0 blk off (A ++ (X ++ (M ++ (Y ++ B)))).toArray w) := S
  have hsum : a + n + M.length + n + B.length = N := by rw [← hN]; simp only [List.length_append]; omega
  have HA : Hid (A.length = a) := ha
  have HM : Hid (a + n + M.length = b ∧ N = a + n + M.length + n + B.length) := ⟨hb, hsum.symm⟩
  have HN : Hid (N = a + n + M.length + n + B.length) := hsum.symm
  have HX : Hid (X.length = n) := hX
  have HY : Hid (Y.length = n) := hY
  have HS : Hid (d0.size = N) := hs
  have hbn : b + n ≤ N := by omega
  have hab : a + n ≤ b := by omega
  clear S ha hb hX hY hs hN hsum
  go_enter L.fS, Try.ntmps72
  go_wp2
  go_loopg [10] n (fun g s wr => ∃ (i : Nat) (X1 X2 Y1 Y2 : List Ch), s = .int .i64 i ∧ i ≤ n ∧ n - i ≤ g ∧ Aside (SWK enc k w0 blk off (A ++ (Y1 ++ (X2 ++ (M ++ (X1 ++ (Y2 ++ B)))))).toArray wr) ∧ Hid (X = X1 ++ X2 ∧ Y = Y1 ++ Y2 ∧ X1.length = i ∧ Y1.length = i))
  case atStart => exact ⟨0, [], X, [], Y, rfl, by omega, by omega, S0, ⟨rfl, rfl, rfl, rfl⟩⟩
  case round =>
    clear S0
    obtain ⟨i, X1, X2, Y1, Y2, rfl, hi, hg, S1, HH⟩ := hrel
    by_cases hlt : i < n
    · obtain ⟨x, X2, rfl⟩ : ∃ x t, X2 = x :: t := by
        cases X2 with
        | nil => have := HH.out; have h1 := HX.out; rw [this.1] at h1; simp at h1; omega
        | cons x t => exact ⟨x, t, rfl⟩
      obtain ⟨y, Y2, rfl⟩ : ∃ x t, Y2 = x :: t := by
        cases Y2 with
        | nil => have := HH.out; have h1 := HY.out; rw [this.2.1] at h1; simp at h1; omega
        | cons x t => exact ⟨x, t, rfl⟩
      obtain ⟨p, hp⟩ : ∃ p, p = A ++ Y1 := ⟨_, rfl⟩
      obtain ⟨m, hm⟩ : ∃ m, m = X2 ++ (M ++ X1) := ⟨_, rfl⟩
      obtain ⟨q, hq⟩ : ∃ q, q = Y2 ++ B := ⟨_, rfl⟩
      have S2 : Aside (SWK enc k w0 blk off (p ++ x :: (m ++ y :: q)).toArray wr) := by
        have e : A ++ (Y1 ++ (x :: X2 ++ (M ++ (X1 ++ (y :: Y2 ++ B))))) = p ++ x :: (m ++ y :: q) := by rw [hp, hm, hq]; simp
        rw [e] at S1; exact S1
      have hpl : p.length = a + i := by rw [hp, List.length_append, HA.out, HH.out.2.2.2]
      have hml : p.length + 1 + m.length = b + i := by
        have h1 := HX.out; rw [HH.out.1, List.length_append, List.length_cons] at h1
        have h2 := HM.out.1
        have h3 := HH.out.2.2.1
        rw [hpl, hm, List.length_append, List.length_append]; omega
      have hsz2 : (p ++ x :: (m ++ y :: q)).toArray.size = N := by
        rw [List.size_toArray, List.length_append, List.length_cons, List.length_append, List.length_cons]
        have h1 := HX.out; rw [HH.out.1, List.length_append, List.length_cons] at h1
        have h2 := HY.out; rw [HH.out.2.1, List.length_append, List.length_cons] at h2
        have h3 := HN.out
        have h7 := HM.out.1
        have h5 : q.length = Y2.length + B.length := by rw [hq, List.length_append]
        have h4 := HH.out.2.2.2
        omega
      clear S1
      have hget1 : (p ++ x :: (m ++ y :: q)).toArray[a + i]! = x := sget_at p _ x _ (by omega)
      have hget2 : (p ++ x :: (m ++ y :: q)).toArray[b + i]! = y := by
        have := sget_at (p ++ x :: m) q y (b + i) (by rw [List.length_append, List.length_cons]; omega)
        simpa using this
      have hsw : swp (p ++ x :: (m ++ y :: q)).toArray (a + i) (b + i) = (p ++ y :: (m ++ x :: q)).toArray := swp_lr p m q x y _ _ hpl.symm hml.symm
      have HNX : Hid ((p ++ y :: (m ++ x :: q)) = A ++ ((Y1 ++ [y]) ++ (X2 ++ (M ++ ((X1 ++ [x]) ++ (Y2 ++ B)))))) := by show _ = _; rw [hp, hm, hq]; simp
      have S3 : Aside (SWK enc k w0 blk off (p ++ y :: (m ++ x :: q)).toArray ((wr.drew.setCells blk (off + (a + i) * k) (enc y)).setCells blk (off + (b + i) * k) (enc x))) := by
        have := S2.out.swapped R (a + i) (b + i) (by omega) (by omega)
        rw [hsw, hget1, hget2] at this
        exact this
      have l1 := S2.out.ld1 R (by rw [hsz2, HS.out]) P (a + i) (by omega)
      have l2 := S2.out.ld1 R (by rw [hsz2, HS.out]) P (b + i) (by omega)
      have s1 := S2.out.st1 R (by rw [hsz2, HS.out]) P (a + i) (by omega) y
      have s2 := S2.out.st2 R (by rw [hsz2, HS.out]) P (a + i) (b + i) (by omega) (by omega) y x
      rw [hget1] at l1
      rw [hget2] at l2
      have n1 : (enc x).length = k := R.hk _
      have n2 : (enc y).length = k := R.hk _
      have ea : ((a : Int) + (i : Int)).toNat = a + i := by omega
      have pa : (0 : Int) ≤ (a : Int) + (i : Int) := by omega
      have ba : (a : Int) + (i : Int) < (N : Int) := by omega
      have ra : IntKind.i64.wrap ((a : Int) + (i : Int)) = (a : Int) + (i : Int) := by rw [IntKind.wrap_i64]; omega
      have eb : ((b : Int) + (i : Int)).toNat = b + i := by omega
      have pb : (0 : Int) ≤ (b : Int) + (i : Int) := by omega
      have bb : (b : Int) + (i : Int) < (N : Int) := by omega
      have rb : IntKind.i64.wrap ((b : Int) + (i : Int)) = (b : Int) + (i : Int) := by rw [IntKind.wrap_i64]; omega
      generalize enc x = cX at S3 l1 s2 n1
      generalize enc y = cY at S3 l2 s1 s2 n2
      have HE : Hid (X = (X1 ++ [x]) ++ X2 ∧ Y = (Y1 ++ [y]) ++ Y2 ∧ (X1 ++ [x]).length = i + 1 ∧ (Y1 ++ [y]).length = i + 1) := by
        obtain ⟨e1, e2, e3, e4⟩ := HH.out
        exact ⟨by rw [e1]; simp, by rw [e2]; simp, by rw [List.length_append, e3]; rfl, by rw [List.length_append, e4]; rfl⟩
      rw [HNX.out] at S3
      clear S2 hget1 hget2 hsw HNX hp hm hq hpl hml hsz2 HH
      go_wp2_with fail
      go_big_region_o
      clear l1 l2 s1 s2
      generalize (wr.drew.setCells blk (off + (a + i) * k) cY).setCells blk (off + (b + i) * k) cX = w2 at S3 ⊢
      go_wp2
      go_roundg (n - (i + 1))
      case measure => omega
      case rel => exact ⟨i + 1, X1 ++ [x], X2, Y1 ++ [y], Y2, by go_num, by omega, Nat.le_refl _, S3, HE.out⟩
    · have hltz : ¬ (i : Int) < (n : Int) := by omega
      have HF : SWK enc k w0 blk off (A ++ (Y ++ (M ++ (X ++ B)))).toArray wr := by
        obtain ⟨e1, e2, e3, e4⟩ := HH.out
        have h1 := HX.out
        have h2 := HY.out
        rw [e1, List.length_append] at h1
        rw [e2, List.length_append] at h2
        have n1 : X2 = [] := List.length_eq_zero_iff.1 (by omega)
        have n2 : Y2 = [] := List.length_eq_zero_iff.1 (by omega)
        subst n1 n2
        rw [e1, e2]
        have := S1.out
        simpa using this
      have HF : Aside (_) := HF
      clear S1
      go_wp2
      go_end0
      exact ⟨rfl, HF.out⟩
end
end Go.Proofs.Ytipddddpdldokaa

/- The program's stable sort: insertion. -/
namespace Go.Proofs.Ytipddddpdldokaa
open Go.Shelf Go.RowKit Go.Lib Go.Sort Grpm Sbm
set_option linter.unusedVariables false
theorem ins_stop {S1 S2 : List Ch} {x y : Ch} (h : Srt (S1 ++ [y] ++ S2)) (hx : ltS x.key y.key = false) : ∀ z ∈ S1 ++ [y], ltS x.key z.key = false := by
  intro z hz
  rcases List.mem_append.1 hz with hz | hz
  · obtain ⟨s1, _, _⟩ := Srt.append.1 h
    obtain ⟨_, _, s3⟩ := Srt.append.1 s1
    exact leS_trans (s3 z hz y (by simp)) hx
  · rw [List.mem_singleton.1 hz]; exact hx
theorem snoc_of {l : List Ch} (h : 0 < l.length) : ∃ m y, l = m ++ [y] := by
  refine ⟨l.dropLast, l.getLast (fun e => by rw [e] at h; simp at h), (List.dropLast_concat_getLast _).symm⟩

section
variable [Inhabited Ch]
def InP (enc : Ch → List Value) (k : Nat) (w0 : World) (blk off : Nat) (A X B : List Ch) (e : Ending) (w' : World) : Prop := e = .returned (.tuple #[]) ∧ ∃ Z, Srt Z ∧ StL X Z ∧ SWK enc k w0 blk off (A ++ (Z ++ B)).toArray w'
set_option maxHeartbeats 4000000 in
set_option maxRecDepth 1000000 in
theorem insertion_any {P : Program} {k : Nat} (L : SL P k) {enc : Ch → List Value} {w0 : World} {blk off cap N : Nat} {d0 : Array Ch} {cb : Array Value} (R : RowK enc k w0 blk off d0) (C : CmpLays P 34 cb enc k cf blk off N w0) (A X B : List Ch) (a b : Nat) (w : World)
    (ha : A.length = a) (hb : a + X.length = b) (hs : d0.size = N) (hN : (A ++ (X ++ B)).length = N) (hsz : N ≤ 1000000) (S : SWK enc k w0 blk off (A ++ (X ++ B)).toArray w) :
    Calls P 64 #[.slice (some ⟨blk, off, none⟩) N cap, .int .i64 a, .int .i64 b, .func (.func 34) #[] cb] w (InP enc k w0 blk off A X B) := by
  have mixed := L.mixed
  have t0 := L.t0; have a0 := L.a0; have z0 := L.z0; have v0 := L.v0; have t3 := L.t3; have a3 := L.a3; have z3 := L.z3; have v3 := L.v3; have t4 := L.t4; have a4 := L.a4; have z4 := L.z4; have v4 := L.v4; have t23 := L.t23; have a23 := L.a23; have z23 := L.z23; have v23 := L.v23; have t84 := L.t84; have a84 := L.a84; have z84 := L.z84; have v84 := L.v84
  have aE := L.aE; have zE := L.zE
  have EG : ∀ args w, (callFunc 34 args).run P w = .ok (.enter 34 args) w := L.eg
  have HC : Aside _ := C
  have HR : Aside (RowK enc k w0 blk off d0) := R
  have HSZ : Hid (d0.size = N) := hs
  have HA : Hid (A.length = a) := ha
  have S0 : Aside (SWK enc k w0 blk off (A ++ (X.take 1 ++ (X.drop 1 ++ B))).toArray w) := by
    rw [show A ++ (X.take 1 ++ (X.drop 1 ++ B)) = A ++ (X ++ B) by rw [← List.append_assoc (X.take 1), List.take_append_drop]]; exact S
  have hbN : b ≤ N := by simp only [List.length_append] at hN; omega
  have HNN : Hid ((A ++ (X ++ B)).length = N) := hN
  have hab : a ≤ b := by omega
  have HX : Hid (a + X.length = b) := hb
  have HI0 : Hid ((X.take 1).length + (X.drop 1).length = X.length ∧ (a + 1 ≤ b → a + (X.take 1).length = a + 1) ∧ (b < a + 1 → X.drop 1 = []) ∧ Srt (X.take 1) ∧ StL X (X.take 1 ++ X.drop 1)) := by
    refine ⟨by rw [List.length_take, List.length_drop]; omega, fun h => by rw [List.length_take]; omega, fun h => List.length_eq_zero_iff.1 (by rw [List.length_drop]; omega), ?_, by rw [List.take_append_drop]; exact StL.refl _⟩
    cases X with
    | nil => exact Srt.nil
    | cons x t => exact Srt.one x
  clear S C R ha hb hs hN
  go_enter L.fI, Try.ntmps64
  go_wp2
  go_loopg [8] (b - a) (fun g vi wr => ∃ (i : Nat) (S T : List Ch), vi = .int .i64 i ∧ a < i ∧ i ≤ b + 1 ∧ b + 1 - i ≤ g + 1 ∧ Aside (SWK enc k w0 blk off (A ++ (S ++ (T ++ B))).toArray wr) ∧ Hid (S.length + T.length = X.length ∧ (i ≤ b → a + S.length = i) ∧ (b < i → T = []) ∧ Srt S ∧ StL X (S ++ T)))
  case atStart => exact ⟨a + 1, X.take 1, X.drop 1, by go_num, by omega, by omega, by omega, S0, HI0.out⟩
  case round =>
    clear S0 HI0
    obtain ⟨i, S, T, rfl, hai, hib, hg1, S1, HI⟩ := hrel
    by_cases hlt : i < b
    · have hltz : (i : Int) < (b : Int) := by omega
      obtain ⟨x, T, rfl⟩ : ∃ x t, T = x :: t := by
        cases T with
        | nil => have h1 := HI.out.1; have h2 := HI.out.2.1 (by omega); have h3 := HX.out; simp at h1; omega
        | cons x t => exact ⟨x, t, rfl⟩
      have S2 : Aside (SWK enc k w0 blk off (A ++ (S ++ (x :: ([] ++ (T ++ B))))).toArray wr) := S1
      have HJ0 : Hid (S = S ++ ([] : List Ch) ∧ a + S.length = i ∧ ∀ y ∈ ([] : List Ch), ltS x.key y.key = true) := ⟨(List.append_nil _).symm, HI.out.2.1 (by omega), fun y hy => by cases hy⟩
      clear S1
      go_wp2
      go_loopg [9] i (fun g2 vj wr2 => ∃ (j : Nat) (Sa Sb : List Ch), vj = .int .i64 j ∧ a ≤ j ∧ j ≤ i ∧ j ≤ g2 ∧ Aside (SWK enc k w0 blk off (A ++ (Sa ++ (x :: (Sb ++ (T ++ B))))).toArray wr2) ∧ Hid (S = Sa ++ Sb ∧ a + Sa.length = j ∧ ∀ y ∈ Sb, ltS x.key y.key = true))
      case atStart => exact ⟨i, S, [], rfl, by omega, Nat.le_refl _, Nat.le_refl _, S2, HJ0.out⟩
      case round =>
        clear S2 HJ0
        obtain ⟨j, Sa, Sb, rfl, haj, hji, hg2, S2, HJ⟩ := hrel
        have HNL : Hid ((A ++ (Sa ++ (x :: (Sb ++ (T ++ B))))).length = N) := by
          obtain ⟨e1, e2, e3⟩ := HJ.out
          have h1 := HI.out.1
          have h2 := HNN.out
          rw [e1, List.length_append, List.length_cons] at h1
          simp only [List.length_append, List.length_cons] at h2 ⊢
          show _ = _
          omega
        by_cases hja : a < j
        · have hjaz : (a : Int) < (j : Int) := by omega
          obtain ⟨Sa, y, rfl⟩ : ∃ m y, Sa = m ++ [y] := snoc_of (by have := HJ.out.2.1; omega)
          obtain ⟨jp, rfl⟩ : ∃ jp, j = jp + 1 := ⟨j - 1, by omega⟩
          obtain ⟨p, hp⟩ : ∃ p, p = A ++ Sa := ⟨_, rfl⟩
          obtain ⟨q, hq⟩ : ∃ q, q = Sb ++ (T ++ B) := ⟨_, rfl⟩
          have hpl : p.length = jp := by have := HJ.out.2.1; rw [List.length_append] at this; rw [hp, List.length_append, HA.out]; simp at this; omega
          have S3 : Aside (SWK enc k w0 blk off (p ++ y :: ([] ++ x :: q)).toArray wr) := by
            have := S2.out
            rw [show A ++ (Sa ++ [y] ++ x :: (Sb ++ (T ++ B))) = p ++ y :: ([] ++ x :: q) by rw [hp, hq]; simp] at this
            exact this
          have hszd : (p ++ y :: ([] ++ x :: q)).toArray.size = N := by
            rw [show p ++ y :: ([] ++ x :: q) = A ++ (Sa ++ [y] ++ x :: (Sb ++ (T ++ B))) by rw [hp, hq]; simp]; exact HNL.out
          have hget1 : (p ++ y :: ([] ++ x :: q)).toArray[jp]! = y := sget_at p _ y _ hpl.symm
          have hget2 : (p ++ y :: ([] ++ x :: q)).toArray[jp + 1]! = x := by
            have := sget_at (p ++ [y]) q x (jp + 1) (by rw [List.length_append]; simp; omega)
            simpa using this
          have hjN : jp + 1 < N := by rw [← hszd]; simp; omega
          have hwp : IntKind.i64.wrap (jp : Int) = (jp : Int) := by rw [IntKind.wrap_i64]; omega
          have jz : (jp : Int) + 1 < (N : Int) := by omega
          have jz1 : (jp : Int) < (N : Int) := by omega
          have hjaz' : (a : Int) < (jp : Int) + 1 := by omega
          have p0 : (0 : Int) ≤ (jp : Int) + 1 := by omega
          have e0 : ((jp : Int) + 1).toNat = jp + 1 := by omega
          have la := S3.out.ld HR.out (by rw [hszd, HSZ.out]) P jp (by omega)
          have lb := S3.out.ld HR.out (by rw [hszd, HSZ.out]) P (jp + 1) (by omega)
          rw [hget1] at la
          rw [hget2] at lb
          have hcg := S3.out.cmp HC.out (by rw [hszd]) x y
          clear S2
          by_cases hlv : cf x y < 0
          · have HLV : Hid (ltS x.key y.key = true) := cf_neg.1 hlv
            have hsw : swp (p ++ y :: ([] ++ x :: q)).toArray (jp + 1) jp = (p ++ x :: ([] ++ y :: q)).toArray := swp_rl p [] q y x jp (jp + 1) hpl.symm (by simp; omega)
            have HNX : Hid ((p ++ x :: ([] ++ y :: q)) = A ++ (Sa ++ (x :: ((y :: Sb) ++ (T ++ B))))) := by show _ = _; rw [hp, hq]; simp
            have HJ1 : Hid (S = Sa ++ (y :: Sb) ∧ a + Sa.length = jp ∧ ∀ z ∈ y :: Sb, ltS x.key z.key = true) := by
              obtain ⟨e1, e2, e3⟩ := HJ.out
              refine ⟨by rw [e1]; simp, by rw [List.length_append] at e2; simp at e2; omega, fun z hz => ?_⟩
              rcases List.mem_cons.1 hz with rfl | hz
              · exact HLV.out
              · exact e3 z hz
            have HG1 : Hid (_) := hget1
            have HG2 : Hid (_) := hget2
            have HSD : Hid (_) := hszd
            have HSW : Hid (_) := hsw
            clear hget1 hget2 hszd hsw hp hq hpl HJ HLV HNL
            go_wp2_with fail
            go_quiet_grown (first | (go_at_fn 34; refine Calls.grown_of (hcg _ _)))
            have S4 : Aside (SWK enc k w0 blk off (p ++ y :: ([] ++ x :: q)).toArray (grow (wr.drewN nq) osq)) := S3.out.grown nq osq
            clear la lb hcg S3
            generalize grow (wr.drewN nq) osq = w2 at S4 ⊢
            have S5 : Aside (SWK enc k w0 blk off (p ++ x :: ([] ++ y :: q)).toArray ((w2.drew.setCells blk (off + (jp + 1) * k) (enc y)).setCells blk (off + jp * k) (enc x))) := by
              have := S4.out.swapped HR.out (jp + 1) jp (by have := HSD.out; omega) (by have := HSD.out; omega)
              rw [HSW.out, HG1.out, HG2.out] at this
              exact this
            have l1 := S4.out.ld1 HR.out (by rw [HSD.out, HSZ.out]) P (jp + 1) (by have := HSD.out; omega)
            have l2 := S4.out.ld1 HR.out (by rw [HSD.out, HSZ.out]) P jp (by have := HSD.out; omega)
            have s1 := S4.out.st1 HR.out (by rw [HSD.out, HSZ.out]) P (jp + 1) (by have := HSD.out; omega) y
            have s2 := S4.out.st2 HR.out (by rw [HSD.out, HSZ.out]) P (jp + 1) jp (by have := HSD.out; omega) (by have := HSD.out; omega) y x
            rw [HG2.out] at l1
            rw [HG1.out] at l2
            have n1 : (enc x).length = k := HR.out.hk _
            have n2 : (enc y).length = k := HR.out.hk _
            generalize enc x = cX at S5 l1 s2 n1
            generalize enc y = cY at S5 l2 s1 s2 n2
            rw [HNX.out] at S5
            clear S4 HG1 HG2 HSD HSW HNX
            go_wp2_with fail
            go_big_region_o
            clear l1 l2 s1 s2
            generalize (w2.drew.setCells blk (off + (jp + 1) * k) cY).setCells blk (off + jp * k) cX = w3 at S5 ⊢
            go_wp2
            go_roundg jp
            case measure => omega
            case rel => exact ⟨jp, Sa, y :: Sb, by first | rfl | go_num | (congr 1; omega), by omega, by omega, Nat.le_refl _, S5, HJ1.out⟩
          · have HI1 : Hid ((Sa ++ [y] ++ x :: Sb).length + T.length = X.length ∧ (i + 1 ≤ b → a + (Sa ++ [y] ++ x :: Sb).length = i + 1) ∧ (b < i + 1 → T = []) ∧ Srt (Sa ++ [y] ++ x :: Sb) ∧ StL X (Sa ++ [y] ++ x :: Sb ++ T)) := by
              obtain ⟨e1, e2, e3⟩ := HJ.out
              obtain ⟨f1, f2, f3, f4, f5⟩ := HI.out
              have hp1 := put_one (a := Sa ++ [y]) (b := Sb) (x := x) (by rw [← e1]; exact f4) (ins_stop (S2 := Sb) (by rw [← e1]; exact f4) (cf_not.1 hlv)) e3
              have e4 : S.length = (Sa ++ [y]).length + Sb.length := by rw [e1, List.length_append]
              have f6 := f2 (by omega)
              rw [List.length_cons] at f1
              refine ⟨by rw [List.length_append, List.length_cons]; omega, fun h => by rw [List.length_append, List.length_cons]; omega, fun h => by omega, hp1.1, ?_⟩
              have := hp1.2.append (StL.refl T)
              rw [← e1] at this
              exact f5.trans (by simpa using this)
            have HNX : Hid ((p ++ y :: ([] ++ x :: q)) = A ++ ((Sa ++ [y] ++ x :: Sb) ++ (T ++ B))) := by show _ = _; rw [hp, hq]; simp
            clear hget1 hget2 hszd hp hq hpl HJ HNL
            go_wp2_with fail
            go_quiet_grown (first | (go_at_fn 34; refine Calls.grown_of (hcg _ _)))
            have S4 : Aside (SWK enc k w0 blk off (p ++ y :: ([] ++ x :: q)).toArray (grow (wr.drewN nq) osq)) := S3.out.grown nq osq
            clear la lb hcg S3
            generalize grow (wr.drewN nq) osq = w2 at S4 ⊢
            rw [HNX.out] at S4
            clear HNX
            go_wp2
            go_roundg (b - (i + 1))
            case measure => omega
            case rel => exact ⟨i + 1, Sa ++ [y] ++ x :: Sb, T, by go_num, by omega, by omega, by omega, S4, HI1.out⟩
        · have hjaz : decide ((j : Int) > (a : Int)) = false := decide_eq_false (by omega)
          have hjaz' : ¬ (a : Int) < (j : Int) := by omega
          have HI1 : Hid (Sa = [] ∧ (x :: Sb).length + T.length = X.length ∧ (i + 1 ≤ b → a + (x :: Sb).length = i + 1) ∧ (b < i + 1 → T = []) ∧ Srt (x :: Sb) ∧ StL X (x :: Sb ++ T)) := by
            obtain ⟨e1, e2, e3⟩ := HJ.out
            obtain ⟨f1, f2, f3, f4, f5⟩ := HI.out
            have hSa : Sa = [] := List.length_eq_zero_iff.1 (by omega)
            subst hSa
            rw [List.nil_append] at e1
            have hp1 := put_one (a := []) (b := Sb) (x := x) (by rw [List.nil_append, ← e1]; exact f4) (fun y hy => by cases hy) e3
            have e4 : S.length = Sb.length := by rw [e1]
            have f6 := f2 (by omega)
            rw [List.length_cons] at f1
            refine ⟨rfl, by rw [List.length_cons]; omega, fun h => by rw [List.length_cons]; omega, fun h => by omega, hp1.1, ?_⟩
            have := hp1.2.append (StL.refl T)
            rw [e1] at f5
            exact f5.trans (by simpa using this)
          have S4 : Aside (SWK enc k w0 blk off (A ++ ((x :: Sb) ++ (T ++ B))).toArray wr.drew) := by
            have := S2.out.drew
            rw [HI1.out.1] at this
            exact this
          clear S2 HJ HNL
          go_wp2_with fail
          go_big_region_o
          all_goals go_wp2
          go_roundg (b - (i + 1))
          case measure => omega
          case rel => exact ⟨i + 1, x :: Sb, T, by go_num, by omega, by omega, by omega, S4, HI1.out.2⟩
    · have hltz : ¬ (i : Int) < (b : Int) := by omega
      have HF : Aside (∃ Z, Srt Z ∧ StL X Z ∧ SWK enc k w0 blk off (A ++ (Z ++ B)).toArray wr) := by
        obtain ⟨f1, f2, f3, f4, f5⟩ := HI.out
        have hT : T = [] := by
          by_cases hbi : b < i
          · exact f3 hbi
          · have := f2 (by omega); have h4 := HX.out; exact List.length_eq_zero_iff.1 (by omega)
        subst hT
        rw [List.append_nil] at f5
        exact ⟨S, f4, f5, S1.out⟩
      clear S1 HI
      go_wp2
      go_end0
      exact ⟨rfl, HF.out⟩
end
end Go.Proofs.Ytipddddpdldokaa

/- The program's stable sort: symMerge where the first part is one element. -/
namespace Go.Proofs.Ytipddddpdldokaa
open Go.Shelf Go.RowKit Go.Lib Go.Sort Grpm Sbm
set_option linter.unusedVariables false
/-- A part at hand of a row, cut at one of its elements. -/
theorem cut_at {l : List Ch} {n : Nat} (h : n < l.length) : ∃ p x q, l = p ++ x :: q ∧ p.length = n := by
  refine ⟨l.take n, l[n], l.drop (n + 1), by simp, by rw [List.length_take]; omega⟩
theorem srt_below {p q : List Ch} {z x : Ch} (h : Srt (p ++ z :: q)) (hz : ltS z.key x.key = true) : ∀ y ∈ p ++ [z], ltS y.key x.key = true := by
  intro y hy
  obtain ⟨_, _, h3⟩ := Srt.append.1 h
  rcases List.mem_append.1 hy with hy | hy
  · exact le_ltS (h3 y hy z (by simp)) hz
  · rw [List.mem_singleton.1 hy]; exact hz
theorem srt_above {p q : List Ch} {z x : Ch} (h : Srt (p ++ z :: q)) (hz : ltS z.key x.key = false) : ∀ y ∈ z :: q, ltS y.key x.key = false := by
  intro y hy
  obtain ⟨_, h2, _⟩ := Srt.append.1 h
  rcases List.mem_cons.1 hy with rfl | hy
  · exact hz
  · exact leS_trans hz ((Srt.cons.1 h2).1 y hy)
section
variable [Inhabited Ch]
set_option maxHeartbeats 4000000 in
set_option maxRecDepth 1000000 in
theorem symone_any {P : Program} {k : Nat} (L : SL P k) {enc : Ch → List Value} {w0 : World} {blk off cap N : Nat} {d0 : Array Ch} {cb : Array Value} (R : RowK enc k w0 blk off d0) (C : CmpLays P 34 cb enc k cf blk off N w0) (A Y B : List Ch) (x : Ch) (a b : Nat) (w : World)
    (ha : A.length = a) (hb : a + 1 + Y.length = b) (hs : d0.size = N) (hN : (A ++ (x :: (Y ++ B))).length = N) (hsz : N ≤ 1000000) (hY : Srt Y) (S : SWK enc k w0 blk off (A ++ (x :: (Y ++ B))).toArray w) :
    Calls P 65 #[.slice (some ⟨blk, off, none⟩) N cap, .int .i64 a, .int .i64 ((a : Int) + 1), .int .i64 b, .func (.func 34) #[] cb] w (InP enc k w0 blk off A (x :: Y) B) := by
  have mixed := L.mixed
  have t0 := L.t0; have a0 := L.a0; have z0 := L.z0; have v0 := L.v0; have t3 := L.t3; have a3 := L.a3; have z3 := L.z3; have v3 := L.v3; have t4 := L.t4; have a4 := L.a4; have z4 := L.z4; have v4 := L.v4; have t23 := L.t23; have a23 := L.a23; have z23 := L.z23; have v23 := L.v23; have t84 := L.t84; have a84 := L.a84; have z84 := L.z84; have v84 := L.v84; have t48 := L.t48; have a48 := L.a48; have z48 := L.z48; have v48 := L.v48
  have aE := L.aE; have zE := L.zE
  have EG : ∀ args w, (callFunc 34 args).run P w = .ok (.enter 34 args) w := L.eg
  have HC : Aside _ := C
  have HR : Aside (RowK enc k w0 blk off d0) := R
  have HSZ : Hid (d0.size = N) := hs
  have HA : Hid (A.length = a) := ha
  have hbN : b ≤ N := by simp only [List.length_append, List.length_cons] at hN; omega
  have hab : a + 1 ≤ b := by omega
  have S0 : Aside (SWK enc k w0 blk off (A ++ (x :: (Y ++ B))).toArray w) := S
  have HNN : Hid ((A ++ (x :: (Y ++ B))).length = N) := hN
  have HB : Hid (a + 1 + Y.length = b) := hb
  have HY : Hid (Srt Y) := hY
  have hd1 : ((a : Int) + 1 - (a : Int) == 1) = true := by rw [beq_iff_eq]; omega
  clear S C R ha hb hs hN hY
  go_enter L.fM, Try.ntmps65
  go_wp2
  go_loopg [10, 11] (b - a) (fun g s t wr => ∃ (i j : Nat) (Y1 Ym Y2 : List Ch), s = .int .i64 i ∧ t = .int .i64 j ∧ a + 1 ≤ i ∧ i ≤ j ∧ j ≤ b ∧ j - i ≤ g ∧ Aside (SWK enc k w0 blk off (A ++ (x :: (Y ++ B))).toArray wr) ∧ Hid (Y = Y1 ++ (Ym ++ Y2) ∧ a + 1 + Y1.length = i ∧ i + Ym.length = j ∧ (∀ y ∈ Y1, ltS y.key x.key = true) ∧ (∀ y ∈ Y2, ltS y.key x.key = false)))
  case atStart => exact ⟨a + 1, b, [], Y, [], by go_num, rfl, by omega, by omega, by omega, by omega, S0, by simp, by simp, HB.out, fun y hy => absurd hy (by simp), fun y hy => absurd hy (by simp)⟩
  case round =>
    clear S0
    obtain ⟨i, j, Y1, Ym, Y2, rfl, rfl, hai, hij, hjb, hg, S1, HH⟩ := hrel
    by_cases hlt : i < j
    · have hltz : (i : Int) < (j : Int) := by omega
      obtain ⟨h, hh⟩ : ∃ h, h = (i + j) / 2 := ⟨_, rfl⟩
      have eh : ((i : Int) + (j : Int)) / 2 = (h : Int) := by omega
      have hih : i ≤ h := by omega
      have hhj : h < j := by omega
      have HEH : Hid (_) := eh
      clear eh hh
      obtain ⟨Yl, z, Yr, hYm, hYl⟩ := cut_at (l := Ym) (n := h - i) (by have := HH.out.2.2.1; omega)
      have hszd : (A ++ (x :: (Y ++ B))).toArray.size = N := HNN.out
      have hgx : (A ++ (x :: (Y ++ B))).toArray[h]! = z := by
        obtain ⟨e1, e2, e3, e4, e5⟩ := HH.out
        have := sget_at (A ++ (x :: (Y1 ++ Yl))) (Yr ++ (Y2 ++ B)) z h (by simp only [List.length_append, List.length_cons]; have := HA.out; omega)
        rw [← this, e1, hYm]; simp
      have hgy : (A ++ (x :: (Y ++ B))).toArray[a]! = x := sget_at A _ x a HA.out.symm
      have e1 : ((h : Int)).toNat = h := by omega
      have p1 : (0 : Int) ≤ (h : Int) := by omega
      have b1 : (h : Int) < (N : Int) := by omega
      have r1 : IntKind.i64.wrap ((h : Int)) = (h : Int) := by rw [IntKind.wrap_i64]; omega
      have e2 : ((a : Int)).toNat = a := by omega
      have p2 : (0 : Int) ≤ (a : Int) := by omega
      have b2 : (a : Int) < (N : Int) := by omega
      have r2 : IntKind.i64.wrap ((a : Int)) = (a : Int) := by rw [IntKind.wrap_i64]; omega
      have la := S1.out.ld HR.out (by rw [hszd, HSZ.out]) P (h) (by omega)
      have lb := S1.out.ld HR.out (by rw [hszd, HSZ.out]) P (a) (by omega)
      rw [hgx] at la
      rw [hgy] at lb
      have hcg := S1.out.cmp HC.out (by rw [hszd]) z x
      have hYe : Y = (Y1 ++ Yl) ++ z :: (Yr ++ Y2) := by rw [HH.out.1, hYm]; simp
      have HYE : Hid (_) := hYe
      have HYM : Hid (Ym = Yl ++ z :: Yr ∧ Yl.length = h - i) := ⟨hYm, hYl⟩
      clear hYe hYm hYl hgx hgy hszd
      go_wp2_with fail
      rw [HEH.out]
      by_cases hlv : cf z x < 0
      · have HN2 : Hid (Y = (Y1 ++ Yl ++ [z]) ++ (Yr ++ Y2) ∧ a + 1 + (Y1 ++ Yl ++ [z]).length = h + 1 ∧ h + 1 + Yr.length = j ∧ (∀ y ∈ Y1 ++ Yl ++ [z], ltS y.key x.key = true) ∧ (∀ y ∈ Y2, ltS y.key x.key = false)) := by
          obtain ⟨e1, e2, e3, e4, e5⟩ := HH.out
          obtain ⟨f1, f2⟩ := HYM.out
          rw [f1, List.length_append, List.length_cons] at e3
          have hs := HY.out
          rw [HYE.out] at hs
          exact ⟨by rw [HYE.out]; simp, by simp only [List.length_append, List.length_cons, List.length_nil]; omega, by omega, srt_below hs (cf_neg.1 hlv), e5⟩
        clear HH HYE HYM
        go_wp2_with fail
        go_quiet_grown (first | (go_at_fn 34; refine Calls.grown_of (hcg _ _)))
        have S2 : Aside (SWK enc k w0 blk off (A ++ (x :: (Y ++ B))).toArray (grow (wr.drewN nq) osq)) := S1.out.grown nq osq
        clear la lb hcg S1
        generalize grow (wr.drewN nq) osq = w2 at S2 ⊢
        go_wp2
        go_roundg (j - (h + 1))
        case measure => omega
        case rel => exact ⟨h + 1, j, Y1 ++ Yl ++ [z], Yr, Y2, by go_num, rfl, by omega, by omega, by omega, Nat.le_refl _, S2, HN2.out⟩
      · have HN2 : Hid (Y = Y1 ++ (Yl ++ (z :: (Yr ++ Y2))) ∧ a + 1 + Y1.length = i ∧ i + Yl.length = h ∧ (∀ y ∈ Y1, ltS y.key x.key = true) ∧ (∀ y ∈ z :: (Yr ++ Y2), ltS y.key x.key = false)) := by
          obtain ⟨e1, e2, e3, e4, e5⟩ := HH.out
          obtain ⟨f1, f2⟩ := HYM.out
          have hs := HY.out
          rw [HYE.out] at hs
          exact ⟨by rw [HYE.out]; simp, e2, by omega, e4, srt_above hs (cf_not.1 hlv)⟩
        clear HH HYE HYM
        go_wp2_with fail
        go_quiet_grown (first | (go_at_fn 34; refine Calls.grown_of (hcg _ _)))
        have S2 : Aside (SWK enc k w0 blk off (A ++ (x :: (Y ++ B))).toArray (grow (wr.drewN nq) osq)) := S1.out.grown nq osq
        clear la lb hcg S1
        generalize grow (wr.drewN nq) osq = w2 at S2 ⊢
        go_wp2
        go_roundg (h - i)
        case measure => omega
        case rel => exact ⟨i, h, Y1, Yl, z :: (Yr ++ Y2), rfl, rfl, by omega, by omega, by omega, Nat.le_refl _, S2, HN2.out⟩
    · obtain rfl : i = j := by omega
      obtain ⟨e1, e2, e3, e4, e5⟩ := HH.out
      have hYm : Ym = [] := List.length_eq_zero_iff.1 (by omega)
      subst hYm
      have HPA : Hid (Srt (Y1 ++ x :: Y2) ∧ StL (x :: Y) (Y1 ++ x :: Y2)) := by
        have hs := HY.out
        rw [e1, List.nil_append] at hs
        have := put_ahead hs e4 e5
        rw [e1, List.nil_append]
        exact this
      have HY1 : Hid (a + 1 + Y1.length = i) := e2
      have S2 : Aside (SWK enc k w0 blk off (A ++ ([] ++ (x :: (Y1 ++ (Y2 ++ B))))).toArray wr) := by
        have := S1.out
        rw [e1] at this
        refine (show SWK enc k w0 blk off _ wr from ?_)
        simpa using this
      have HNL : Hid (A.length + 1 + Y1.length + (Y2 ++ B).length = N) := by
        have := HNN.out
        rw [e1] at this
        simp only [List.length_append, List.length_cons, List.length_nil] at this ⊢
        show _ = _
        omega
      clear S1 HH e1 e2 e3 e4 e5 HY HB HNN
      go_wp2
      go_loopg [13] (i - a) (fun g s wr => ∃ (q : Nat) (Ya Yb : List Ch), s = .int .i64 q ∧ a ≤ q ∧ q + 1 ≤ i ∧ i - q ≤ g ∧ Aside (SWK enc k w0 blk off (A ++ (Ya ++ (x :: (Yb ++ (Y2 ++ B))))).toArray wr) ∧ Hid (Y1 = Ya ++ Yb ∧ a + Ya.length = q))
      case atStart => exact ⟨a, [], Y1, rfl, by omega, by omega, by omega, S2, rfl, rfl⟩
      case round =>
        clear S2
        obtain ⟨q, Ya, Yb, rfl, haq, hqi, hg2, S2, HQ⟩ := hrel
        by_cases hq : q + 1 < i
        · have hqz : (q : Int) < (i : Int) - 1 := by omega
          obtain ⟨y, Yb, rfl⟩ : ∃ y t, Yb = y :: t := by
            cases Yb with
            | nil => have h1 := HQ.out.1; have h2 := HQ.out.2; have h3 := HY1.out; rw [h1, List.append_nil] at h3; omega
            | cons y t => exact ⟨y, t, rfl⟩
          obtain ⟨p, hp⟩ : ∃ p, p = A ++ Ya := ⟨_, rfl⟩
          obtain ⟨r, hr⟩ : ∃ r, r = Yb ++ (Y2 ++ B) := ⟨_, rfl⟩
          have hpl : p.length = q := by rw [hp, List.length_append, HA.out, HQ.out.2]
          have S3 : Aside (SWK enc k w0 blk off (p ++ x :: ([] ++ y :: r)).toArray wr) := by
            have := S2.out
            rw [show A ++ (Ya ++ x :: (y :: Yb ++ (Y2 ++ B))) = p ++ x :: ([] ++ y :: r) by rw [hp, hr]; simp] at this
            exact this
          have hszd : (p ++ x :: ([] ++ y :: r)).toArray.size = N := by
            have h1 := HNL.out
            rw [HQ.out.1] at h1
            rw [hp, hr]
            simp only [List.size_toArray, List.length_append, List.length_cons, List.length_nil] at h1 ⊢
            omega
          have hqN : q + 1 < N := by omega
          have hgx : (p ++ x :: ([] ++ y :: r)).toArray[q]! = x := sget_at p _ x _ hpl.symm
          have hgy : (p ++ x :: ([] ++ y :: r)).toArray[q + 1]! = y := by
            have := sget_at (p ++ [x]) r y (q + 1) (by rw [List.length_append]; simp; omega)
            simpa using this
          have hsw : swp (p ++ x :: ([] ++ y :: r)).toArray q (q + 1) = (p ++ y :: ([] ++ x :: r)).toArray := swp_lr p [] r x y q (q + 1) hpl.symm (by simp; omega)
          have HNX : Hid ((p ++ y :: ([] ++ x :: r)) = A ++ ((Ya ++ [y]) ++ (x :: (Yb ++ (Y2 ++ B))))) := by show _ = _; rw [hp, hr]; simp
          have HQ1 : Hid (Y1 = (Ya ++ [y]) ++ Yb ∧ a + (Ya ++ [y]).length = q + 1) := ⟨by rw [HQ.out.1]; simp, by rw [List.length_append]; have := HQ.out.2; simp; omega⟩
          clear S2
          have e1 : ((q : Int)).toNat = q := by omega
          have p1 : (0 : Int) ≤ (q : Int) := by omega
          have b1 : (q : Int) < (N : Int) := by omega
          have r1 : IntKind.i64.wrap ((q : Int)) = (q : Int) := by rw [IntKind.wrap_i64]; omega
          have e2 : ((q : Int) + 1).toNat = q + 1 := by omega
          have p2 : (0 : Int) ≤ (q : Int) + 1 := by omega
          have b2 : (q : Int) + 1 < (N : Int) := by omega
          have r2 : IntKind.i64.wrap ((q : Int) + 1) = (q : Int) + 1 := by rw [IntKind.wrap_i64]; omega
          have S4 : Aside (SWK enc k w0 blk off (p ++ y :: ([] ++ x :: r)).toArray ((wr.drew.setCells blk (off + (q) * k) (enc y)).setCells blk (off + (q + 1) * k) (enc x))) := by
            have := S3.out.swapped HR.out (q) (q + 1) (by omega) (by omega)
            rw [hsw, hgx, hgy] at this
            exact this
          have l1 := S3.out.ld1 HR.out (by rw [hszd, HSZ.out]) P (q) (by omega)
          have l2 := S3.out.ld1 HR.out (by rw [hszd, HSZ.out]) P (q + 1) (by omega)
          have s1 := S3.out.st1 HR.out (by rw [hszd, HSZ.out]) P (q) (by omega) y
          have s2 := S3.out.st2 HR.out (by rw [hszd, HSZ.out]) P (q) (q + 1) (by omega) (by omega) y x
          rw [hgx] at l1
          rw [hgy] at l2
          have n1 : (enc x).length = k := HR.out.hk _
          have n2 : (enc y).length = k := HR.out.hk _
          generalize enc x = cX at S4 l1 s2 n1
          generalize enc y = cY at S4 l2 s1 s2 n2
          rw [HNX.out] at S4
          clear S3 hgx hgy hsw HNX hp hr hpl hszd HQ
          go_wp2_with fail
          go_big_region_o
          clear l1 l2 s1 s2
          generalize (wr.drew.setCells blk (off + (q) * k) cY).setCells blk (off + (q + 1) * k) cX = w3 at S4 ⊢
          go_wp2
          go_roundg (i - (q + 1))
          case measure => omega
          case rel => exact ⟨q + 1, Ya ++ [y], Yb, by go_num, by omega, by omega, Nat.le_refl _, S4, HQ1.out⟩
        · have hqz : ¬ (q : Int) < (i : Int) - 1 := by omega
          have HF : Aside (SWK enc k w0 blk off (A ++ ((Y1 ++ x :: Y2) ++ B)).toArray wr) := by
            have h1 := HQ.out.1
            have h2 := HQ.out.2
            have h3 := HY1.out
            rw [h1, List.length_append] at h3
            have hYb : Yb = [] := List.length_eq_zero_iff.1 (by omega)
            subst hYb
            rw [h1]
            have := S2.out
            refine (show SWK enc k w0 blk off _ wr from ?_)
            simpa using this
          clear S2 HQ
          go_wp2
          go_end0
          exact ⟨rfl, _, HPA.out.1, HPA.out.2, HF.out⟩
end
end Go.Proofs.Ytipddddpdldokaa

/- The program's stable sort: symMerge where the last part is one element. -/
namespace Go.Proofs.Ytipddddpdldokaa
open Go.Shelf Go.RowKit Go.Lib Go.Sort Grpm Sbm
set_option linter.unusedVariables false
theorem srt_over {p q : List Ch} {z x : Ch} (h : Srt (p ++ z :: q)) (hz : ltS x.key z.key = true) : ∀ y ∈ z :: q, ltS x.key y.key = true := by
  intro y hy
  obtain ⟨_, h2, _⟩ := Srt.append.1 h
  rcases List.mem_cons.1 hy with rfl | hy
  · exact hz
  · exact lt_leS hz ((Srt.cons.1 h2).1 y hy)
section
variable [Inhabited Ch]
set_option maxHeartbeats 4000000 in
set_option maxRecDepth 1000000 in
theorem symlast_any {P : Program} {k : Nat} (L : SL P k) {enc : Ch → List Value} {w0 : World} {blk off cap N : Nat} {d0 : Array Ch} {cb : Array Value} (R : RowK enc k w0 blk off d0) (C : CmpLays P 34 cb enc k cf blk off N w0) (A X B : List Ch) (y : Ch) (a m : Nat) (w : World)
    (ha : A.length = a) (hm : a + X.length = m) (hX2 : X.length ≠ 1) (hs : d0.size = N) (hN : (A ++ (X ++ (y :: B))).length = N) (hsz : N ≤ 1000000) (hX : Srt X) (S : SWK enc k w0 blk off (A ++ (X ++ (y :: B))).toArray w) :
    Calls P 65 #[.slice (some ⟨blk, off, none⟩) N cap, .int .i64 a, .int .i64 m, .int .i64 ((m : Int) + 1), .func (.func 34) #[] cb] w (InP enc k w0 blk off A (X ++ [y]) B) := by
  have mixed := L.mixed
  have t0 := L.t0; have a0 := L.a0; have z0 := L.z0; have v0 := L.v0; have t3 := L.t3; have a3 := L.a3; have z3 := L.z3; have v3 := L.v3; have t4 := L.t4; have a4 := L.a4; have z4 := L.z4; have v4 := L.v4; have t23 := L.t23; have a23 := L.a23; have z23 := L.z23; have v23 := L.v23; have t84 := L.t84; have a84 := L.a84; have z84 := L.z84; have v84 := L.v84; have t48 := L.t48; have a48 := L.a48; have z48 := L.z48; have v48 := L.v48
  have aE := L.aE; have zE := L.zE
  have EG : ∀ args w, (callFunc 34 args).run P w = .ok (.enter 34 args) w := L.eg
  have HC : Aside _ := C
  have HR : Aside (RowK enc k w0 blk off d0) := R
  have HSZ : Hid (d0.size = N) := hs
  have HA : Hid (A.length = a) := ha
  have hmN : m + 1 ≤ N := by simp only [List.length_append, List.length_cons] at hN; omega
  have ham : a ≤ m := by omega
  have S0 : Aside (SWK enc k w0 blk off (A ++ (X ++ (y :: B))).toArray w) := S
  have HNN : Hid ((A ++ (X ++ (y :: B))).length = N) := hN
  have HM : Hid (a + X.length = m) := hm
  have HX : Hid (Srt X) := hX
  have hd0 : ((m : Int) - (a : Int) == 1) = false := by rw [beq_eq_false_iff_ne]; omega
  have hd1 : ((m : Int) + 1 - (m : Int) == 1) = true := by rw [beq_iff_eq]; omega
  have hd2 : ¬ ((m : Int) - (a : Int) = 1) := by omega
  clear S C R ha hm hX2 hs hN hX
  go_enter L.fM, Try.ntmps65
  go_wp2
  go_loopg [14, 15] (m - a) (fun g s t wr => ∃ (i j : Nat) (X1 Xm X2 : List Ch), s = .int .i64 i ∧ t = .int .i64 j ∧ a ≤ i ∧ i ≤ j ∧ j ≤ m ∧ j - i ≤ g ∧ Aside (SWK enc k w0 blk off (A ++ (X ++ (y :: B))).toArray wr) ∧ Hid (X = X1 ++ (Xm ++ X2) ∧ a + X1.length = i ∧ i + Xm.length = j ∧ (∀ z ∈ X1, ltS y.key z.key = false) ∧ (∀ z ∈ X2, ltS y.key z.key = true)))
  case atStart => exact ⟨a, m, [], X, [], rfl, rfl, by omega, by omega, by omega, by omega, S0, by simp, by simp, HM.out, fun y hy => absurd hy (by simp), fun y hy => absurd hy (by simp)⟩
  case round =>
    clear S0
    obtain ⟨i, j, X1, Xm, X2, rfl, rfl, hai, hij, hjm, hg, S1, HH⟩ := hrel
    by_cases hlt : i < j
    · have hltz : (i : Int) < (j : Int) := by omega
      obtain ⟨h, hh⟩ : ∃ h, h = (i + j) / 2 := ⟨_, rfl⟩
      have eh : ((i : Int) + (j : Int)) / 2 = (h : Int) := by omega
      have hih : i ≤ h := by omega
      have hhj : h < j := by omega
      have HEH : Hid (_) := eh
      clear eh hh
      obtain ⟨Xl, z, Xr, hXm, hXl⟩ := cut_at (l := Xm) (n := h - i) (by have := HH.out.2.2.1; omega)
      have hszd : (A ++ (X ++ (y :: B))).toArray.size = N := HNN.out
      have hgx : (A ++ (X ++ (y :: B))).toArray[m]! = y := by
        have := sget_at (A ++ X) B y m (by rw [List.length_append]; have := HA.out; have := HM.out; omega)
        rw [show A ++ (X ++ y :: B) = (A ++ X) ++ y :: B by simp]; exact this
      have hgy : (A ++ (X ++ (y :: B))).toArray[h]! = z := by
        obtain ⟨e1, e2, e3, e4, e5⟩ := HH.out
        have := sget_at (A ++ (X1 ++ Xl)) (Xr ++ (X2 ++ (y :: B))) z h (by simp only [List.length_append]; have := HA.out; omega)
        rw [← this, e1, hXm]; simp
      have e1 : ((m : Int)).toNat = m := by omega
      have p1 : (0 : Int) ≤ (m : Int) := by omega
      have b1 : (m : Int) < (N : Int) := by omega
      have r1 : IntKind.i64.wrap ((m : Int)) = (m : Int) := by rw [IntKind.wrap_i64]; omega
      have e2 : ((h : Int)).toNat = h := by omega
      have p2 : (0 : Int) ≤ (h : Int) := by omega
      have b2 : (h : Int) < (N : Int) := by omega
      have r2 : IntKind.i64.wrap ((h : Int)) = (h : Int) := by rw [IntKind.wrap_i64]; omega
      have la := S1.out.ld HR.out (by rw [hszd, HSZ.out]) P (m) (by omega)
      have lb := S1.out.ld HR.out (by rw [hszd, HSZ.out]) P (h) (by omega)
      rw [hgx] at la
      rw [hgy] at lb
      have hcg := S1.out.cmp HC.out (by rw [hszd]) y z
      have hXe : X = (X1 ++ Xl) ++ z :: (Xr ++ X2) := by rw [HH.out.1, hXm]; simp
      have HXE : Hid (_) := hXe
      have HXM : Hid (Xm = Xl ++ z :: Xr ∧ Xl.length = h - i) := ⟨hXm, hXl⟩
      clear hXe hXm hXl hgx hgy hszd
      go_wp2_with fail
      rw [HEH.out]
      by_cases hlv : cf y z < 0
      · have HN2 : Hid (X = X1 ++ (Xl ++ (z :: (Xr ++ X2))) ∧ a + X1.length = i ∧ i + Xl.length = h ∧ (∀ z ∈ X1, ltS y.key z.key = false) ∧ (∀ u ∈ z :: (Xr ++ X2), ltS y.key u.key = true)) := by
          obtain ⟨e1, e2, e3, e4, e5⟩ := HH.out
          obtain ⟨f1, f2⟩ := HXM.out
          have hs := HX.out
          rw [HXE.out] at hs
          exact ⟨by rw [HXE.out]; simp, e2, by omega, e4, srt_over hs (cf_neg.1 hlv)⟩
        clear HH HXE HXM
        have hdv : decide (cf y z < 0) = true := decide_eq_true hlv
        go_wp2_with fail
        go_quiet_grown (first | (go_at_fn 34; refine Calls.grown_of (hcg _ _)))
        have S2 : Aside (SWK enc k w0 blk off (A ++ (X ++ (y :: B))).toArray (grow (wr.drewN nq) osq)) := S1.out.grown nq osq
        clear la lb hcg S1
        generalize grow (wr.drewN nq) osq = w2 at S2 ⊢
        go_wp2
        go_roundg (h - i)
        case measure => omega
        case rel => exact ⟨i, h, X1, Xl, z :: (Xr ++ X2), rfl, rfl, by omega, by omega, by omega, Nat.le_refl _, S2, HN2.out⟩
      · have HN2 : Hid (X = (X1 ++ Xl ++ [z]) ++ (Xr ++ X2) ∧ a + (X1 ++ Xl ++ [z]).length = h + 1 ∧ h + 1 + Xr.length = j ∧ (∀ u ∈ X1 ++ Xl ++ [z], ltS y.key u.key = false) ∧ (∀ u ∈ X2, ltS y.key u.key = true)) := by
          obtain ⟨e1, e2, e3, e4, e5⟩ := HH.out
          obtain ⟨f1, f2⟩ := HXM.out
          rw [f1, List.length_append, List.length_cons] at e3
          have hs := HX.out
          rw [HXE.out] at hs
          exact ⟨by rw [HXE.out]; simp, by simp only [List.length_append, List.length_cons, List.length_nil]; omega, by omega, ins_stop (S1 := X1 ++ Xl) (S2 := Xr ++ X2) (by simpa using hs) (cf_not.1 hlv), e5⟩
        clear HH HXE HXM
        have hdv : decide (cf y z < 0) = false := decide_eq_false hlv
        go_wp2_with fail
        go_quiet_grown (first | (go_at_fn 34; refine Calls.grown_of (hcg _ _)))
        have S2 : Aside (SWK enc k w0 blk off (A ++ (X ++ (y :: B))).toArray (grow (wr.drewN nq) osq)) := S1.out.grown nq osq
        clear la lb hcg S1
        generalize grow (wr.drewN nq) osq = w2 at S2 ⊢
        go_wp2
        go_roundg (j - (h + 1))
        case measure => omega
        case rel => exact ⟨h + 1, j, X1 ++ Xl ++ [z], Xr, X2, by go_num, rfl, by omega, by omega, by omega, Nat.le_refl _, S2, HN2.out⟩
    · obtain rfl : i = j := by omega
      obtain ⟨e1, e2, e3, e4, e5⟩ := HH.out
      have hXm : Xm = [] := List.length_eq_zero_iff.1 (by omega)
      subst hXm
      have HPA : Hid (Srt (X1 ++ y :: X2) ∧ StL (X ++ [y]) (X1 ++ y :: X2)) := by
        have hs := HX.out
        rw [e1, List.nil_append] at hs
        have := put_one hs e4 e5
        rw [e1, List.nil_append]
        exact this
      have HX1 : Hid (A.length + X1.length = i ∧ i + X2.length = m) := by
        have h1 := HM.out
        rw [e1] at h1
        simp only [List.length_append, List.length_nil] at h1
        have h2 := HA.out
        exact ⟨by omega, by omega⟩
      have S2 : Aside (SWK enc k w0 blk off (A ++ (X1 ++ (X2 ++ (y :: ([] ++ B))))).toArray wr) := by
        have := S1.out
        rw [e1] at this
        refine (show SWK enc k w0 blk off _ wr from ?_)
        simpa using this
      have HNL : Hid (A.length + X1.length + X2.length + 1 + B.length = N) := by
        have := HNN.out
        rw [e1] at this
        simp only [List.length_append, List.length_cons, List.length_nil] at this ⊢
        show _ = _
        omega
      clear S1 HH e1 e2 e3 e4 e5 HX HM HNN
      go_wp2
      go_loopg [17] (m - i) (fun g s wr => ∃ (q : Nat) (Xa Xb : List Ch), s = .int .i64 q ∧ i ≤ q ∧ q ≤ m ∧ q - i ≤ g ∧ Aside (SWK enc k w0 blk off (A ++ (X1 ++ (Xa ++ (y :: (Xb ++ B))))).toArray wr) ∧ Hid (X2 = Xa ++ Xb ∧ i + Xa.length = q))
      case atStart => exact ⟨m, X2, [], rfl, by omega, by omega, by omega, S2, by simp, HX1.out.2⟩
      case round =>
        clear S2
        obtain ⟨q, Xa, Xb, rfl, hiq, hqm, hg2, S2, HQ⟩ := hrel
        by_cases hq : i < q
        · have hqz : (i : Int) < (q : Int) := by omega
          obtain ⟨Xa, z, rfl⟩ : ∃ m y, Xa = m ++ [y] := snoc_of (by have := HQ.out.2; omega)
          obtain ⟨kp, rfl⟩ : ∃ kp, q = kp + 1 := ⟨q - 1, by omega⟩
          obtain ⟨p, hp⟩ : ∃ p, p = A ++ (X1 ++ Xa) := ⟨_, rfl⟩
          obtain ⟨r, hr⟩ : ∃ r, r = Xb ++ B := ⟨_, rfl⟩
          have hpl : p.length = kp := by have h1 := HQ.out.2; have h2 := HX1.out.1; rw [List.length_append] at h1; rw [hp, List.length_append, List.length_append]; simp at h1; omega
          have S3 : Aside (SWK enc k w0 blk off (p ++ z :: ([] ++ y :: r)).toArray wr) := by
            have := S2.out
            rw [show A ++ (X1 ++ (Xa ++ [z] ++ y :: (Xb ++ B))) = p ++ z :: ([] ++ y :: r) by rw [hp, hr]; simp] at this
            exact this
          have hszd : (p ++ z :: ([] ++ y :: r)).toArray.size = N := by
            have h1 := HNL.out
            rw [HQ.out.1] at h1
            rw [hp, hr]
            simp only [List.size_toArray, List.length_append, List.length_cons, List.length_nil] at h1 ⊢
            omega
          have hqN : kp + 1 < N := by omega
          have hgx : (p ++ z :: ([] ++ y :: r)).toArray[kp]! = z := sget_at p _ z _ hpl.symm
          have hgy : (p ++ z :: ([] ++ y :: r)).toArray[kp + 1]! = y := by
            have := sget_at (p ++ [z]) r y (kp + 1) (by rw [List.length_append]; simp; omega)
            simpa using this
          have hsw : swp (p ++ z :: ([] ++ y :: r)).toArray (kp + 1) kp = (p ++ y :: ([] ++ z :: r)).toArray := swp_rl p [] r z y kp (kp + 1) hpl.symm (by simp; omega)
          have HNX : Hid ((p ++ y :: ([] ++ z :: r)) = A ++ (X1 ++ (Xa ++ (y :: ((z :: Xb) ++ B))))) := by show _ = _; rw [hp, hr]; simp
          have HQ1 : Hid (X2 = Xa ++ (z :: Xb) ∧ i + Xa.length = kp) := ⟨by rw [HQ.out.1]; simp, by have := HQ.out.2; rw [List.length_append] at this; simp at this; omega⟩
          have hiq' : (i : Int) < (kp : Int) + 1 := by omega
          clear S2
          have e1 : ((kp : Int)).toNat = kp := by omega
          have p1 : (0 : Int) ≤ (kp : Int) := by omega
          have b1 : (kp : Int) < (N : Int) := by omega
          have r1 : IntKind.i64.wrap ((kp : Int)) = (kp : Int) := by rw [IntKind.wrap_i64]; omega
          have e2 : ((kp : Int) + 1).toNat = kp + 1 := by omega
          have p2 : (0 : Int) ≤ (kp : Int) + 1 := by omega
          have b2 : (kp : Int) + 1 < (N : Int) := by omega
          have r2 : IntKind.i64.wrap ((kp : Int) + 1) = (kp : Int) + 1 := by rw [IntKind.wrap_i64]; omega
          have S4 : Aside (SWK enc k w0 blk off (p ++ y :: ([] ++ z :: r)).toArray ((wr.drew.setCells blk (off + (kp + 1) * k) (enc z)).setCells blk (off + (kp) * k) (enc y))) := by
            have := S3.out.swapped HR.out (kp + 1) (kp) (by omega) (by omega)
            rw [hsw, hgy, hgx] at this
            exact this
          have l1 := S3.out.ld1 HR.out (by rw [hszd, HSZ.out]) P (kp + 1) (by omega)
          have l2 := S3.out.ld1 HR.out (by rw [hszd, HSZ.out]) P (kp) (by omega)
          have s1 := S3.out.st1 HR.out (by rw [hszd, HSZ.out]) P (kp + 1) (by omega) z
          have s2 := S3.out.st2 HR.out (by rw [hszd, HSZ.out]) P (kp + 1) (kp) (by omega) (by omega) z y
          rw [hgy] at l1
          rw [hgx] at l2
          have n1 : (enc y).length = k := HR.out.hk _
          have n2 : (enc z).length = k := HR.out.hk _
          generalize enc y = cX at S4 l1 s2 n1
          generalize enc z = cY at S4 l2 s1 s2 n2
          rw [HNX.out] at S4
          clear S3 hgx hgy hsw HNX hp hr hpl hszd HQ
          go_wp2_with fail
          go_big_region_o
          clear l1 l2 s1 s2
          generalize (wr.drew.setCells blk (off + (kp + 1) * k) cY).setCells blk (off + (kp) * k) cX = w3 at S4 ⊢
          go_wp2
          go_roundg (kp - i)
          case measure => omega
          case rel => exact ⟨kp, Xa, z :: Xb, by first | rfl | go_num | (congr 1; omega), by omega, by omega, Nat.le_refl _, S4, HQ1.out⟩
        · have hqz : ¬ (i : Int) < (q : Int) := by omega
          have HF : Aside (SWK enc k w0 blk off (A ++ ((X1 ++ y :: X2) ++ B)).toArray wr) := by
            have h1 := HQ.out.1
            have h2 := HQ.out.2
            have hXa : Xa = [] := List.length_eq_zero_iff.1 (by omega)
            subst hXa
            rw [h1]
            have := S2.out
            refine (show SWK enc k w0 blk off _ wr from ?_)
            simpa using this
          clear S2 HQ
          go_wp2
          go_end0
          exact ⟨rfl, _, HPA.out.1, HPA.out.2, HF.out⟩
end
end Go.Proofs.Ytipddddpdldokaa

/- The program's stable sort: rotate. -/
namespace Go.Proofs.Ytipddddpdldokaa
open Go.Shelf Go.RowKit Go.Lib Go.Sort Grpm Sbm
set_option linter.unusedVariables false
section
variable [Inhabited Ch]
def SwP (enc : Ch → List Value) (k : Nat) (w0 : World) (blk off : Nat) (l : List Ch) (e : Ending) (w' : World) : Prop := e = .returned (.tuple #[]) ∧ SWK enc k w0 blk off l.toArray w'

set_option maxHeartbeats 4000000 in
set_option maxRecDepth 1000000 in
/-- Two ranges that follow one another change places. -/
theorem rotate_any {P : Program} {k : Nat} (L : SL P k) {enc : Ch → List Value} {w0 : World} {blk off cap N : Nat} {d0 : Array Ch} (R : RowK enc k w0 blk off d0) (A X Y B : List Ch) (a m b : Nat) (fv : Value) (w : World)
    (ha : A.length = a) (hm : a + X.length = m) (hb : m + Y.length = b) (hX : 0 < X.length) (hY : 0 < Y.length) (hs : d0.size = N) (hN : (A ++ (X ++ (Y ++ B))).length = N) (hsz : N ≤ 1000000) (S : SWK enc k w0 blk off (A ++ (X ++ (Y ++ B))).toArray w) :
    Calls P 69 #[.slice (some ⟨blk, off, none⟩) N cap, .int .i64 a, .int .i64 m, .int .i64 b, fv] w (SwP enc k w0 blk off (A ++ (Y ++ (X ++ B)))) := by
  have t0 := L.t0; have a0 := L.a0; have z0 := L.z0; have v0 := L.v0; have t3 := L.t3; have a3 := L.a3; have z3 := L.z3; have v3 := L.v3; have t4 := L.t4; have a4 := L.a4; have z4 := L.z4; have v4 := L.v4; have t23 := L.t23; have a23 := L.a23; have z23 := L.z23; have v23 := L.v23; have t84 := L.t84; have a84 := L.a84; have z84 := L.z84; have v84 := L.v84
  have EG : ∀ args w, (callFunc 72 args).run P w = .ok (.enter 72 args) w := enters_of L.fS (by kernel_rfl) rfl
  have S0 : Aside (SWK enc k w0 blk off (A ++ (X ++ (Y ++ B))).toArray w) := S
  have HL0 : Hid (A.length + X.length = m) := by show _ = _; omega
  have HNN : Hid ((A ++ (X ++ (Y ++ B))).length = N) := hN
  have hX1 : X.length = m - a := by omega
  have hY1 : Y.length = b - m := by omega
  have hmN : b ≤ N := by simp only [List.length_append] at hN; omega
  have ham : a < m := by omega
  have hmb : m < b := by omega
  obtain ⟨F, hF⟩ : ∃ F, F = A ++ (Y ++ (X ++ B)) := ⟨_, rfl⟩
  have HF0 : Hid (A ++ (Y ++ (X ++ B)) = F) := hF.symm
  have HX : Hid (X.length = m - a) := hX1
  have HY : Hid (Y.length = b - m) := hY1
  have HA : Hid (A.length = a) := ha
  have HR : Aside (RowK enc k w0 blk off d0) := R
  have HSZ : Hid (d0.size = N) := hs
  rw [← hF]
  clear S ha hm hb hX hY hs hN hF hX1 hY1 R
  go_enter L.fR, Try.ntmps69
  go_wp2
  go_loopg [10, 11] (b - a) (fun g s t wr => ∃ (i j : Nat) (p U V q : List Ch), s = .int .i64 i ∧ t = .int .i64 j ∧ 0 < i ∧ 0 < j ∧ i ≤ m ∧ m + j ≤ N ∧ i + j ≤ g ∧ Aside (SWK enc k w0 blk off (p ++ (U ++ (V ++ q))).toArray wr) ∧ Hid (p ++ (V ++ (U ++ q)) = F ∧ U.length = i ∧ V.length = j ∧ p.length + i = m ∧ (p ++ (U ++ (V ++ q))).length = N))
  case atStart => exact ⟨m - a, b - m, A, X, Y, B, by go_num, by go_num, by omega, by omega, by omega, by omega, by omega, S0, ⟨HF0.out, HX.out, HY.out, by have := HA.out; omega, HNN.out⟩⟩
  case round =>
    clear S0 HF0 HX HY HA HL0 HNN
    obtain ⟨i, j, p, U, V, q, rfl, rfl, hi, hj, him, hjN, hg, S1, HH⟩ := hrel
    by_cases hij : i = j
    · subst hij
      have HC : Hid (Calls P 72 #[.slice (some ⟨blk, off, none⟩) N cap, .int .i64 ((m : Int) - (i : Int)), .int .i64 (m : Int), .int .i64 (i : Int), fv] wr (SwP enc k w0 blk off F)) := by
        obtain ⟨e1, e2, e3, e4, e5⟩ := HH.out
        have := swaprange_any L HR.out (cap := cap) p U [] V q (m - i) m i fv wr (by omega) (by simp; omega) e2 e3 HSZ.out (by simpa using e5) hsz (by have := S1.out; simpa using this)
        rw [show ((m - i : Nat) : Int) = (m : Int) - (i : Int) by omega] at this
        refine Calls.mono this ?_
        rintro e w' ⟨rfl, h⟩
        refine ⟨rfl, ?_⟩
        rw [← e1]
        simpa using h
      clear S1 HH
      go_wp2_with fail
      refine Calls.mono HC.out ?_
      rintro e w1 ⟨rfl, h1⟩
      have H1 : Aside (_) := h1
      clear h1 HC
      go_wp2
      go_end0
      exact ⟨rfl, H1.out⟩
    by_cases hlt : j < i
    · obtain ⟨U1, U2, hU, hU1⟩ : ∃ U1 U2, U = U1 ++ U2 ∧ U1.length = j := ⟨U.take j, U.drop j, (List.take_append_drop j U).symm, by rw [List.length_take, HH.out.2.1]; omega⟩
      have hU2 : U2.length = i - j := by have := HH.out.2.1; rw [hU, List.length_append] at this; omega
      have HC : Hid (Calls P 72 #[.slice (some ⟨blk, off, none⟩) N cap, .int .i64 ((m : Int) - (i : Int)), .int .i64 (m : Int), .int .i64 (j : Int), fv] wr (SwP enc k w0 blk off ((p ++ V) ++ (U2 ++ (U1 ++ q))))) := by
        obtain ⟨e1, e2, e3, e4, e5⟩ := HH.out
        have := swaprange_any L HR.out (cap := cap) p U1 U2 V q (m - i) m j fv wr (by omega) (by omega) hU1 e3 HSZ.out (by rw [hU] at e5; simpa using e5) hsz (by have := S1.out; rw [hU] at this; simpa using this)
        rw [show ((m - i : Nat) : Int) = (m : Int) - (i : Int) by omega] at this
        refine Calls.mono this ?_
        rintro e w' ⟨rfl, h⟩
        refine ⟨rfl, ?_⟩
        simpa using h
      have HE : Hid ((p ++ V) ++ (U1 ++ (U2 ++ q)) = F ∧ U2.length = i - j ∧ U1.length = j ∧ (p ++ V).length + (i - j) = m ∧ ((p ++ V) ++ (U2 ++ (U1 ++ q))).length = N) := by
        obtain ⟨e1, e2, e3, e4, e5⟩ := HH.out
        refine ⟨by rw [← e1, hU]; simp, hU2, hU1, by rw [List.length_append]; omega, ?_⟩
        rw [← e5, hU]; simp only [List.length_append]; omega
      clear S1 HH hU hU1 hU2
      go_wp2_with fail
      refine Calls.mono HC.out ?_
      rintro e w1 ⟨rfl, h1⟩
      have H1 : Aside (_) := h1
      clear h1 HC
      go_wp2
      go_roundg (i - j + j)
      case measure => omega
      case rel => exact ⟨i - j, j, p ++ V, U2, U1, q, by go_num, rfl, by omega, hj, by omega, hjN, by omega, H1.out, HE.out⟩
    · obtain ⟨V1, V2, hV, hV2⟩ : ∃ V1 V2, V = V1 ++ V2 ∧ V2.length = i := ⟨V.take (j - i), V.drop (j - i), (List.take_append_drop _ V).symm, by rw [List.length_drop, HH.out.2.2.1]; omega⟩
      have hV1 : V1.length = j - i := by have := HH.out.2.2.1; rw [hV, List.length_append] at this; omega
      have HC : Hid (Calls P 72 #[.slice (some ⟨blk, off, none⟩) N cap, .int .i64 ((m : Int) - (i : Int)), .int .i64 ((m : Int) + (j : Int) - (i : Int)), .int .i64 (i : Int), fv] wr (SwP enc k w0 blk off (p ++ (V2 ++ (V1 ++ (U ++ q)))))) := by
        obtain ⟨e1, e2, e3, e4, e5⟩ := HH.out
        have := swaprange_any L HR.out (cap := cap) p U V1 V2 q (m - i) (m + j - i) i fv wr (by omega) (by omega) e2 hV2 HSZ.out (by rw [hV] at e5; simpa using e5) hsz (by have := S1.out; rw [hV] at this; simpa using this)
        rw [show ((m - i : Nat) : Int) = (m : Int) - (i : Int) by omega, show ((m + j - i : Nat) : Int) = (m : Int) + (j : Int) - (i : Int) by omega] at this
        exact this
      have HE : Hid (p ++ (V1 ++ (V2 ++ (U ++ q))) = F ∧ V2.length = i ∧ V1.length = j - i ∧ p.length + i = m ∧ (p ++ (V2 ++ (V1 ++ (U ++ q)))).length = N) := by
        obtain ⟨e1, e2, e3, e4, e5⟩ := HH.out
        refine ⟨by rw [← e1, hV]; simp, hV2, hV1, e4, ?_⟩
        rw [← e5, hV]; simp only [List.length_append]; omega
      clear S1 HH hV hV1 hV2
      go_wp2_with fail
      refine Calls.mono HC.out ?_
      rintro e w1 ⟨rfl, h1⟩
      have H1 : Aside (_) := h1
      clear h1 HC
      go_wp2
      go_roundg (i + (j - i))
      case measure => omega
      case rel => exact ⟨i, j - i, p, V2, V1, U ++ q, rfl, by go_num, hi, by omega, him, by omega, by omega, H1.out, HE.out⟩
end
end Go.Proofs.Ytipddddpdldokaa

/- The program's stable sort: symMerge. -/
namespace Go.Proofs.Ytipddddpdldokaa
open Go.Shelf Go.RowKit Go.Lib Go.Sort Grpm Sbm
set_option linter.unusedVariables false
theorem sym_cut {x1 x2 y1 y2 : List Ch} (hx : Srt (x1 ++ x2)) (hy : Srt (y1 ++ y2)) (j1 : x1 = [] ∨ y2 = [] ∨ ∃ p x q y, x1 = p ++ [x] ∧ y2 = y :: q ∧ ltS y.key x.key = false) (j2 : x2 = [] ∨ y1 = [] ∨ ∃ x p q y, x2 = x :: p ∧ y1 = q ++ [y] ∧ ltS y.key x.key = true) :
    (∀ x ∈ x1, ∀ y ∈ y2, ltS y.key x.key = false) ∧ (∀ x ∈ x2, ∀ y ∈ y1, ltS y.key x.key = true) := by
  obtain ⟨a1, a2, a3⟩ := Srt.append.1 hx
  obtain ⟨b1, b2, b3⟩ := Srt.append.1 hy
  constructor
  · rcases j1 with rfl | rfl | ⟨p, x, q, y, rfl, rfl, h⟩
    · intro x hx; cases hx
    · intro x hx y hy; cases hy
    · intro u hu v hv
      have e1 : ltS x.key u.key = false := by
        rcases List.mem_append.1 hu with hu | hu
        · exact (Srt.append.1 a1).2.2 u hu x (by simp)
        · rw [List.mem_singleton.1 hu]; exact ltS_irr _
      have e2 : ltS v.key y.key = false := by
        rcases List.mem_cons.1 hv with rfl | hv
        · exact ltS_irr _
        · exact (Srt.cons.1 b2).1 v hv
      exact leS_trans (leS_trans e1 h) e2
  · rcases j2 with rfl | rfl | ⟨x, p, q, y, rfl, rfl, h⟩
    · intro x hx; cases hx
    · intro x hx y hy; cases hy
    · intro u hu v hv
      have e1 : ltS u.key x.key = false := by
        rcases List.mem_cons.1 hu with rfl | hu
        · exact ltS_irr _
        · exact (Srt.cons.1 a2).1 u hu
      have e2 : ltS y.key v.key = false := by
        rcases List.mem_append.1 hv with hv | hv
        · exact (Srt.append.1 b1).2.2 v hv y (by simp)
        · rw [List.mem_singleton.1 hv]; exact ltS_irr _
      exact lt_leS (le_ltS e2 h) e1
theorem srt_either {x y : List Ch} (hx : Srt x) (hy : Srt y) (h : x = [] ∨ y = []) : Srt (x ++ y) := by
  rcases h with rfl | rfl
  · exact hy
  · rw [List.append_nil]; exact hx
section
variable [Inhabited Ch]
/-- What symMerge does to whatever two sorted ranges of at most n elements. -/
def SymOk (P : Program) (k : Nat) (enc : Ch → List Value) (w0 : World) (blk off cap N : Nat) (cb : Array Value) (n : Nat) : Prop :=
  ∀ (A X Y B : List Ch) (a m b : Nat) (w : World), X.length + Y.length ≤ n → A.length = a → a + X.length = m → m + Y.length = b → 0 < X.length → 0 < Y.length → (A ++ (X ++ (Y ++ B))).length = N → Srt X → Srt Y → SWK enc k w0 blk off (A ++ (X ++ (Y ++ B))).toArray w →
    Calls P 65 #[.slice (some ⟨blk, off, none⟩) N cap, .int .i64 a, .int .i64 m, .int .i64 b, .func (.func 34) #[] cb] w (InP enc k w0 blk off A (X ++ Y) B)
/-- Where an element stands. -/
theorem at_x {A X1 X2 Y B : List Ch} {x : Ch} {i : Nat} (h : i = A.length + X1.length) : (A ++ ((X1 ++ x :: X2) ++ (Y ++ B))).toArray[i]! = x := by
  have := sget_at (A ++ X1) (X2 ++ (Y ++ B)) x i (by rw [List.length_append]; exact h)
  rw [show A ++ ((X1 ++ x :: X2) ++ (Y ++ B)) = (A ++ X1) ++ x :: (X2 ++ (Y ++ B)) by simp]; exact this
theorem at_y {A X Y1 Y2 B : List Ch} {y : Ch} {i : Nat} (h : i = A.length + X.length + Y1.length) : (A ++ (X ++ ((Y1 ++ y :: Y2) ++ B))).toArray[i]! = y := by
  have := sget_at (A ++ (X ++ Y1)) (Y2 ++ B) y i (by rw [List.length_append, List.length_append]; omega)
  rw [show A ++ (X ++ ((Y1 ++ y :: Y2) ++ B)) = (A ++ (X ++ Y1)) ++ y :: (Y2 ++ B) by simp]; exact this
theorem sym_exit {A X Y B : List Ch} {a m b mid s s0 r0 : Nat} (hA : A.length = a) (hX : X.length = m - a) (hY : Y.length = b - m) (sX : Srt X) (sY : Srt Y) (ham : a ≤ m) (hmb : m ≤ b) (h0 : a ≤ s0) (h1 : s0 ≤ s) (h2 : s ≤ r0) (h3 : r0 ≤ m) (h4 : r0 ≤ mid) (h5 : mid + m ≤ b + s0) (he : (s0 = a ∨ mid + m = b + s0) ∧ (r0 = m ∨ r0 = mid))
    (j1 : s0 < s → ltS (A ++ (X ++ (Y ++ B))).toArray[mid + m - s]!.key (A ++ (X ++ (Y ++ B))).toArray[s - 1]!.key = false) (j2 : s < r0 → ltS (A ++ (X ++ (Y ++ B))).toArray[mid + m - 1 - s]!.key (A ++ (X ++ (Y ++ B))).toArray[s]!.key = true) :
    ∃ X1 X2 Y1 Y2, X = X1 ++ X2 ∧ Y = Y1 ++ Y2 ∧ X1.length = s - a ∧ Y1.length = mid - s ∧ (∀ x ∈ X1, ∀ y ∈ Y2, ltS y.key x.key = false) ∧ (∀ x ∈ X2, ∀ y ∈ Y1, ltS y.key x.key = true) := by
  have tX : X = X.take (s - a) ++ X.drop (s - a) := (List.take_append_drop _ _).symm
  have tY : Y = Y.take (mid - s) ++ Y.drop (mid - s) := (List.take_append_drop _ _).symm
  have lX : (X.take (s - a)).length = s - a := by rw [List.length_take]; omega
  have lY : (Y.take (mid - s)).length = mid - s := by rw [List.length_take]; omega
  obtain ⟨X1, hX1⟩ : ∃ l, l = X.take (s - a) := ⟨_, rfl⟩
  obtain ⟨X2, hX2⟩ : ∃ l, l = X.drop (s - a) := ⟨_, rfl⟩
  obtain ⟨Y1, hY1⟩ : ∃ l, l = Y.take (mid - s) := ⟨_, rfl⟩
  obtain ⟨Y2, hY2⟩ : ∃ l, l = Y.drop (mid - s) := ⟨_, rfl⟩
  rw [← hX1] at tX lX
  rw [← hX2] at tX
  rw [← hY1] at tY lY
  rw [← hY2] at tY
  clear hX1 hX2 hY1 hY2
  subst tX tY
  rw [List.length_append] at hX hY
  refine ⟨X1, X2, Y1, Y2, rfl, rfl, lX, lY, sym_cut sX sY ?_ ?_⟩
  · by_cases c1 : X1.length = 0
    · exact .inl (List.length_eq_zero_iff.1 c1)
    by_cases c2 : Y2.length = 0
    · exact .inr (.inl (List.length_eq_zero_iff.1 c2))
    obtain ⟨p, x, rfl⟩ := snoc_of (l := X1) (by omega)
    obtain ⟨y, q, rfl⟩ : ∃ y q, Y2 = y :: q := by
      cases Y2 with
      | nil => exact absurd rfl c2
      | cons y q => exact ⟨y, q, rfl⟩
    have := j1 (by omega)
    rw [List.length_append, List.length_singleton] at lX
    rw [at_y (by simp only [List.length_append, List.length_cons, List.length_nil] at hX ⊢; omega), show p ++ [x] ++ X2 = p ++ x :: X2 by simp, at_x (by omega)] at this
    exact .inr (.inr ⟨p, x, q, y, rfl, rfl, this⟩)
  · by_cases c1 : X2.length = 0
    · exact .inl (List.length_eq_zero_iff.1 c1)
    by_cases c2 : Y1.length = 0
    · exact .inr (.inl (List.length_eq_zero_iff.1 c2))
    obtain ⟨q, y, rfl⟩ := snoc_of (l := Y1) (by omega)
    obtain ⟨x, p, rfl⟩ : ∃ y q, X2 = y :: q := by
      cases X2 with
      | nil => exact absurd rfl c1
      | cons y q => exact ⟨y, q, rfl⟩
    have := j2 (by omega)
    rw [List.length_append, List.length_singleton] at lY
    rw [show q ++ [y] ++ Y2 = q ++ y :: Y2 by simp, at_y (by simp only [List.length_append, List.length_cons] at hX ⊢; omega), at_x (by omega)] at this
    exact .inr (.inr ⟨x, p, q, y, rfl, rfl, this⟩)

set_option maxHeartbeats 8000000 in
set_option maxRecDepth 1000000 in
theorem symgen_any {P : Program} {k : Nat} (L : SL P k) {enc : Ch → List Value} {w0 : World} {blk off cap N : Nat} {d0 : Array Ch} {cb : Array Value} (R : RowK enc k w0 blk off d0) (C : CmpLays P 34 cb enc k cf blk off N w0) (n : Nat) (IH : SymOk P k enc w0 blk off cap N cb n) (A X Y B : List Ch) (a m b : Nat) (w : World)
    (hn : X.length + Y.length ≤ n + 1) (ha : A.length = a) (hm : a + X.length = m) (hb : m + Y.length = b) (hX2 : 2 ≤ X.length) (hY2 : 2 ≤ Y.length) (hs : d0.size = N) (hN : (A ++ (X ++ (Y ++ B))).length = N) (hsz : N ≤ 1000000) (hX : Srt X) (hY : Srt Y) (S : SWK enc k w0 blk off (A ++ (X ++ (Y ++ B))).toArray w) :
    Calls P 65 #[.slice (some ⟨blk, off, none⟩) N cap, .int .i64 a, .int .i64 m, .int .i64 b, .func (.func 34) #[] cb] w (InP enc k w0 blk off A (X ++ Y) B) := by
  have mixed := L.mixed
  have t0 := L.t0; have a0 := L.a0; have z0 := L.z0; have v0 := L.v0; have t3 := L.t3; have a3 := L.a3; have z3 := L.z3; have v3 := L.v3; have t4 := L.t4; have a4 := L.a4; have z4 := L.z4; have v4 := L.v4; have t23 := L.t23; have a23 := L.a23; have z23 := L.z23; have v23 := L.v23; have t84 := L.t84; have a84 := L.a84; have z84 := L.z84; have v84 := L.v84; have t48 := L.t48; have a48 := L.a48; have z48 := L.z48; have v48 := L.v48
  have aE := L.aE; have zE := L.zE
  have EG : ∀ args w, (callFunc 34 args).run P w = .ok (.enter 34 args) w := L.eg
  have HC : Aside _ := C
  have HR : Aside (RowK enc k w0 blk off d0) := R
  have HSZ : Hid (d0.size = N) := hs
  have EG2 : ∀ args w, (callFunc 69 args).run P w = .ok (.enter 69 args) w := enters_of L.fR (by kernel_rfl) rfl
  have EG3 : ∀ args w, (callFunc 65 args).run P w = .ok (.enter 65 args) w := enters_of L.fM (by kernel_rfl) rfl
  have hbN : b ≤ N := by simp only [List.length_append] at hN; omega
  have HL : Hid (SL P k) := L
  have HIH : Aside (SymOk P k enc w0 blk off cap N cb n) := IH
  have S0 : Aside (SWK enc k w0 blk off (A ++ (X ++ (Y ++ B))).toArray w) := S
  have HNN : Hid ((A ++ (X ++ (Y ++ B))).length = N) := hN
  have HLN : Hid (A.length = a ∧ X.length = m - a ∧ Y.length = b - m ∧ b - a ≤ n + 1) := ⟨ha, by omega, by omega, by omega⟩
  have HXY : Hid (Srt X ∧ Srt Y) := ⟨hX, hY⟩
  have ham : a + 2 ≤ m := by omega
  have hmb : m + 2 ≤ b := by omega
  have hd0 : ((m : Int) - (a : Int) == 1) = false := by rw [beq_eq_false_iff_ne]; omega
  have hd1 : ((b : Int) - (m : Int) == 1) = false := by rw [beq_eq_false_iff_ne]; omega
  have hd2 : ¬ ((m : Int) - (a : Int) = 1) := by omega
  have hd3 : ¬ ((b : Int) - (m : Int) = 1) := by omega
  obtain ⟨mid, hmid⟩ : ∃ mid, mid = (a + b) / 2 := ⟨_, rfl⟩
  have hm1 : a < mid := by omega
  have hm2 : mid < b := by omega
  have hm3 : a + b ≤ 2 * mid + 1 := by omega
  have hm4 : 2 * mid ≤ a + b := by omega
  have em : ((a : Int) + (b : Int)) / 2 = (mid : Int) := by omega
  obtain ⟨pp, hpp⟩ : ∃ pp, pp = mid + m - 1 := ⟨_, rfl⟩
  have ep : (mid : Int) + (m : Int) - 1 = (pp : Int) := by omega
  have hpm : pp + 1 = mid + m := by omega
  clear hpp
  obtain ⟨s0, r0, hsr⟩ : ∃ s0 r0 : Nat, (mid < m ∧ s0 = mid + m - b ∧ r0 = mid) ∨ (¬ mid < m ∧ s0 = a ∧ r0 = m) := by
    by_cases h : mid < m
    · exact ⟨mid + m - b, mid, .inl ⟨h, rfl, rfl⟩⟩
    · exact ⟨a, m, .inr ⟨h, rfl, rfl⟩⟩
  have hs0a : a ≤ s0 := by omega
  have hs0r : s0 ≤ r0 := by omega
  have hr0m : r0 ≤ m := by omega
  have hr0d : r0 ≤ mid := by omega
  have hs0b : mid + m ≤ b + s0 := by omega
  have HEND : Hid ((s0 = a ∨ mid + m = b + s0) ∧ (r0 = m ∨ r0 = mid)) := ⟨by omega, by omega⟩
  have hcase : (mid < m ∧ (s0 : Int) = (mid : Int) + (m : Int) - (b : Int) ∧ r0 = mid) ∨ (¬ mid < m ∧ s0 = a ∧ r0 = m) := by omega
  clear S C R IH ha hm hb hs hN hX hY hX2 hY2 hn hsr L hmid
  rcases hcase with ⟨hmm, hs0, hr0⟩ | ⟨hmm, hs0, hr0⟩
  case' inl => have hmz : (mid : Int) < (m : Int) := by omega
  case' inr => have hmz : ¬ (mid : Int) < (m : Int) := by omega
  all_goals
    have HS0 : Hid (_) := hs0
    have HR0 : Hid (_) := hr0
    clear hs0 hr0
    go_enter HL.out.fM, Try.ntmps65
    go_wp2
    go_loopg [20, 21] (r0 - s0) (fun g sv tv wr => ∃ (s r : Nat), sv = .int .i64 s ∧ tv = .int .i64 r ∧ s0 ≤ s ∧ s ≤ r ∧ r ≤ r0 ∧ r - s ≤ g ∧ Aside (SWK enc k w0 blk off (A ++ (X ++ (Y ++ B))).toArray wr) ∧ Hid ((s0 < s → ltS (A ++ (X ++ (Y ++ B))).toArray[mid + m - s]!.key (A ++ (X ++ (Y ++ B))).toArray[s - 1]!.key = false) ∧ (r < r0 → ltS (A ++ (X ++ (Y ++ B))).toArray[pp - r]!.key (A ++ (X ++ (Y ++ B))).toArray[r]!.key = true)))
    case atStart => exact ⟨s0, r0, by first | (rw [HS0.out]; done) | (rw [HS0.out]) | rfl, by rw [HR0.out], Nat.le_refl _, hs0r, Nat.le_refl _, Nat.le_refl _, S0, fun h => absurd h (by omega), fun h => absurd h (by omega)⟩
    case round =>
      clear S0 HS0 HR0
      obtain ⟨s, r, rfl, rfl, hs1, hsr, hr1, hg, S1, HH⟩ := hrel
      by_cases hlt : s < r
      · have hltz : (s : Int) < (r : Int) := by omega
        obtain ⟨c, hc⟩ : ∃ c, c = (s + r) / 2 := ⟨_, rfl⟩
        have ec : ((s : Int) + (r : Int)) / 2 = (c : Int) := by omega
        have hsc : s ≤ c := by omega
        have hcr : c < r := by omega
        have HEC : Hid (_) := ec
        clear ec hc
        obtain ⟨D, hD⟩ : ∃ D, D = (A ++ (X ++ (Y ++ B))).toArray := ⟨_, rfl⟩
        have hszd : D.size = N := by rw [hD]; exact HNN.out
        have HD : Hid (_) := hD
        rw [← hD] at S1 HH
        clear hD
        obtain ⟨x, hx⟩ : ∃ x, x = D[pp - c]! := ⟨_, rfl⟩
        obtain ⟨y, hy⟩ : ∃ y, y = D[c]! := ⟨_, rfl⟩
        have e1 : ((pp : Int) - (c : Int)).toNat = pp - c := by omega
        have p1 : (0 : Int) ≤ (pp : Int) - (c : Int) := by omega
        have b1 : (pp : Int) - (c : Int) < (N : Int) := by omega
        have r1 : IntKind.i64.wrap ((pp : Int) - (c : Int)) = (pp : Int) - (c : Int) := by rw [IntKind.wrap_i64]; omega
        have e2 : ((c : Int)).toNat = c := by omega
        have p2 : (0 : Int) ≤ (c : Int) := by omega
        have b2 : (c : Int) < (N : Int) := by omega
        have r2 : IntKind.i64.wrap ((c : Int)) = (c : Int) := by rw [IntKind.wrap_i64]; omega
        have la := S1.out.ld HR.out (by rw [hszd, HSZ.out]) P (pp - c) (by omega)
        have lb := S1.out.ld HR.out (by rw [hszd, HSZ.out]) P (c) (by omega)
        rw [← hx] at la
        rw [← hy] at lb
        have hcg := S1.out.cmp HC.out (by rw [hszd]) x y
        have hcp : c ≤ pp := by omega
        have hcp2 : (c : Int) ≤ (pp : Int) := by omega
        have HXY2 : Hid (x = D[pp - c]! ∧ y = D[c]!) := ⟨hx, hy⟩
        clear hx hy hszd
        go_wp2_with fail
        rw [HEC.out]
        by_cases hlv : cf x y < 0
        · have HN2 : Hid ((s0 < s → ltS D[mid + m - s]!.key D[s - 1]!.key = false) ∧ (c < r0 → ltS D[pp - c]!.key D[c]!.key = true)) := by
            refine ⟨HH.out.1, fun _ => ?_⟩
            rw [← HXY2.out.1, ← HXY2.out.2]; exact cf_neg.1 hlv
          have hdv : decide (cf x y < 0) = true := decide_eq_true hlv
          clear HH HXY2
          go_wp2_with fail
          go_quiet_grown (first | (go_at_fn 34; refine Calls.grown_of (hcg _ _)))
          have S2 : Aside (SWK enc k w0 blk off D (grow (wr.drewN nq) osq)) := S1.out.grown nq osq
          clear la lb hcg S1
          generalize grow (wr.drewN nq) osq = w2 at S2 ⊢
          rw [HD.out] at S2 HN2
          clear HD
          go_wp2
          go_roundg (c - s)
          case measure => omega
          case rel => exact ⟨s, c, rfl, rfl, by omega, by omega, by omega, Nat.le_refl _, S2, HN2.out⟩
        · have HN2 : Hid ((s0 < c + 1 → ltS D[mid + m - (c + 1)]!.key D[c + 1 - 1]!.key = false) ∧ (r < r0 → ltS D[pp - r]!.key D[r]!.key = true)) := by
            refine ⟨fun _ => ?_, HH.out.2⟩
            rw [show mid + m - (c + 1) = pp - c by omega, show c + 1 - 1 = c by omega, ← HXY2.out.1, ← HXY2.out.2]; exact cf_not.1 hlv
          have hdv : decide (cf x y < 0) = false := decide_eq_false hlv
          clear HH HXY2
          go_wp2_with fail
          go_quiet_grown (first | (go_at_fn 34; refine Calls.grown_of (hcg _ _)))
          have S2 : Aside (SWK enc k w0 blk off D (grow (wr.drewN nq) osq)) := S1.out.grown nq osq
          clear la lb hcg S1
          generalize grow (wr.drewN nq) osq = w2 at S2 ⊢
          rw [HD.out] at S2 HN2
          clear HD
          go_wp2
          go_roundg (r - (c + 1))
          case measure => omega
          case rel => exact ⟨c + 1, r, by go_num, rfl, by omega, by omega, by omega, Nat.le_refl _, S2, HN2.out⟩
      · obtain rfl : s = r := by omega
        obtain ⟨X1, X2, Y1, Y2, hX, hY, hX1, hY1, h12, h21⟩ := sym_exit HLN.out.1 HLN.out.2.1 HLN.out.2.2.1 HXY.out.1 HXY.out.2 (by omega) (by omega) hs0a hs1 hr1 hr0m hr0d hs0b HEND.out HH.out.1 (by rw [show mid + m - 1 - s = pp - s by omega]; exact HH.out.2)
        have hX2 : X2.length = m - s := by have := HLN.out.2.1; rw [hX, List.length_append] at this; omega
        have hY2 : Y2.length = b + s - mid - m := by have := HLN.out.2.2.1; rw [hY, List.length_append] at this; omega
        have hNN : (A ++ (X1 ++ (X2 ++ (Y1 ++ (Y2 ++ B))))).length = N := by have := HNN.out; rw [hX, hY] at this; simpa using this
        have S2 : Aside (SWK enc k w0 blk off (A ++ (X1 ++ (X2 ++ (Y1 ++ (Y2 ++ B))))).toArray wr) := by
          have := S1.out
          rw [hX, hY] at this
          refine (show SWK enc k w0 blk off _ wr from ?_)
          simpa using this
        obtain ⟨sX1, sX2, sY1, sY2⟩ : Srt X1 ∧ Srt X2 ∧ Srt Y1 ∧ Srt Y2 := by
          have h1 := HXY.out.1
          have h2 := HXY.out.2
          rw [hX] at h1
          rw [hY] at h2
          exact ⟨(Srt.append.1 h1).1, (Srt.append.1 h1).2.1, (Srt.append.1 h2).1, (Srt.append.1 h2).2.1⟩
        have hA := HLN.out.1
        have hbn := HLN.out.2.2.2
        have HZ : Hid (∀ Z1 Z2, Srt Z1 → Srt Z2 → StL (X1 ++ Y1) Z1 → StL (X2 ++ Y2) Z2 → Srt (Z1 ++ Z2) ∧ StL (X ++ Y) (Z1 ++ Z2)) := show ∀ _ _, _ → _ → _ → _ → _ from fun Z1 Z2 q1 q2 q3 q4 => by
          rw [hX, hY]
          exact turned (by rw [← hX]; exact HXY.out.1) (by rw [← hY]; exact HXY.out.2) h12 h21 q1 q2 q3 q4
        have ee : (mid : Int) + (m : Int) - (s : Int) = ((mid + m - s : Nat) : Int) := by omega
        obtain ⟨en, hen⟩ : ∃ en, en = mid + m - s := ⟨_, rfl⟩
        rw [← hen] at ee
        have hen1 : en + s ≤ mid + m := by omega
        have hen2 : mid + m ≤ en + s := by omega
        have HROT : Hid (s < m → m < en → Calls P 69 #[.slice (some ⟨blk, off, none⟩) N cap, .int .i64 (s : Int), .int .i64 (m : Int), .int .i64 (en : Int), .func (.func 34) #[] cb] wr (SwP enc k w0 blk off (A ++ (X1 ++ (Y1 ++ (X2 ++ (Y2 ++ B))))))) := show _ → _ → _ from fun q1 q2 => by
          have := rotate_any HL.out HR.out (cap := cap) (A ++ X1) X2 Y1 (Y2 ++ B) s m en (.func (.func 34) #[] cb) wr (by rw [List.length_append]; omega) (by omega) (by omega) (by omega) (by omega) HSZ.out (by simpa using hNN) hsz (by have := S2.out; simpa using this)
          simpa using this
        have HM1 : Hid (∀ W, SWK enc k w0 blk off (A ++ (X1 ++ (Y1 ++ (X2 ++ (Y2 ++ B))))).toArray W → a < s → s < mid → Calls P 65 #[.slice (some ⟨blk, off, none⟩) N cap, .int .i64 (a : Int), .int .i64 (s : Int), .int .i64 (mid : Int), .func (.func 34) #[] cb] W (InP enc k w0 blk off A (X1 ++ Y1) (X2 ++ (Y2 ++ B)))) := show ∀ W, _ → _ → _ → _ from fun W q q1 q2 =>
          HIH.out A X1 Y1 (X2 ++ (Y2 ++ B)) a s mid W (by omega) hA (by omega) (by omega) (by omega) (by omega) (by rw [← hNN]; simp only [List.length_append]; omega) sX1 sY1 q
        have HM2 : Hid (∀ Z1 W, Z1.length = X1.length + Y1.length → SWK enc k w0 blk off (A ++ (Z1 ++ (X2 ++ (Y2 ++ B)))).toArray W → mid < en → en < b → Calls P 65 #[.slice (some ⟨blk, off, none⟩) N cap, .int .i64 (mid : Int), .int .i64 (en : Int), .int .i64 (b : Int), .func (.func 34) #[] cb] W (InP enc k w0 blk off (A ++ Z1) (X2 ++ Y2) B)) := show ∀ Z1 W, _ → _ → _ → _ → _ from fun Z1 W q0 q q1 q2 =>
          HIH.out (A ++ Z1) X2 Y2 B mid en b W (by omega) (by rw [List.length_append]; omega) (by omega) (by omega) (by omega) (by omega) (by rw [← hNN]; simp only [List.length_append]; omega) sX2 sY2 (by simpa using q)
        have HN1 : Hid (¬ (a < s ∧ s < mid) → Srt (X1 ++ Y1)) := show _ → _ from fun q => srt_either sX1 sY1 (by
          by_cases c : X1.length = 0
          · exact .inl (List.length_eq_zero_iff.1 c)
          · exact .inr (List.length_eq_zero_iff.1 (by omega)))
        have HN2 : Hid (¬ (mid < en ∧ en < b) → Srt (X2 ++ Y2)) := show _ → _ from fun q => srt_either sX2 sY2 (by
          by_cases c : X2.length = 0
          · exact .inl (List.length_eq_zero_iff.1 c)
          · exact .inr (List.length_eq_zero_iff.1 (by omega)))
        have HN0 : Hid (¬ (s < m ∧ m < en) → SWK enc k w0 blk off (A ++ (X1 ++ (Y1 ++ (X2 ++ (Y2 ++ B))))).toArray wr) := show _ → _ from fun q => by
          have := S2.out
          by_cases c : X2.length = 0
          · have c := List.length_eq_zero_iff.1 c
            subst c
            simpa using this
          · have c : Y1 = [] := List.length_eq_zero_iff.1 (by omega)
            subst c
            simpa using this
        have HLE : Hid (∀ Z1, StL (X1 ++ Y1) Z1 → Z1.length = X1.length + Y1.length) := show ∀ _, _ → _ from fun Z1 q => by rw [q.1, List.length_append]
        clear hen S1 S2 HH hX hY hX1 hX2 hY1 hY2 hNN sX1 sX2 sY1 sY2 h12 h21 hA HEND HNN HLN HXY HIH HR HC HL
        by_cases q0 : s < m
        · by_cases q1 : s < mid
          · by_cases q2 : a < s
            · by_cases q3 : en < b
              · have z1 : (s : Int) < (m : Int) := by omega
                have z2 : (mid : Int) < (en : Int) := by omega
                have z3 : (s : Int) < (mid : Int) := by omega
                have z4 : (m : Int) < (en : Int) := by omega
                have z5 : (a : Int) < (s : Int) := by omega
                have z6 : (en : Int) < (b : Int) := by omega
                first | (exfalso; omega) | skip
                all_goals
                  go_wp2_with fail
                  refine Calls.mono (HROT.out (by omega) (by omega)) ?_
                  rintro e w1 ⟨rfl, h1⟩
                  have S3 : Aside (SWK enc k w0 blk off (A ++ (X1 ++ (Y1 ++ (X2 ++ (Y2 ++ B))))).toArray w1) := h1
                  clear h1
                  clear HROT HN0
                  go_wp2_with fail
                  refine Calls.mono (HM1.out _ S3.out (by omega) (by omega)) ?_
                  rintro e w2 ⟨rfl, Z1, t1, t2, h2⟩
                  have S4 : Aside (SWK enc k w0 blk off (A ++ (Z1 ++ (X2 ++ (Y2 ++ B)))).toArray w2) := h2
                  have T1 : Hid (Srt Z1 ∧ StL (X1 ++ Y1) Z1) := ⟨t1, t2⟩
                  clear h2 t1 t2 S3
                  clear HM1 HN1
                  go_wp2_with fail
                  refine Calls.mono (HM2.out Z1 _ (HLE.out _ T1.out.2) S4.out (by omega) (by omega)) ?_
                  rintro e w3 ⟨rfl, Z2, t1, t2, h2⟩
                  have S5 : Aside (SWK enc k w0 blk off (A ++ ((Z1 ++ Z2) ++ B)).toArray w3) := by
                    refine (show SWK enc k w0 blk off _ w3 from ?_)
                    simpa using h2
                  have T2 : Hid (Srt Z2 ∧ StL (X2 ++ Y2) Z2) := ⟨t1, t2⟩
                  clear h2 t1 t2 S4
                  clear HM2 HN2
                  have ZZ := show Hid (_) from HZ.out Z1 Z2 T1.out.1 T2.out.1 T1.out.2 T2.out.2
                  clear HZ T1 T2 HLE
                  go_wp2
                  go_end0
                  exact ⟨rfl, _, ZZ.out.1, ZZ.out.2, S5.out⟩
              · have z1 : (s : Int) < (m : Int) := by omega
                have z2 : (mid : Int) < (en : Int) := by omega
                have z3 : (s : Int) < (mid : Int) := by omega
                have z4 : (m : Int) < (en : Int) := by omega
                have z5 : (a : Int) < (s : Int) := by omega
                have z6 : ¬ (en : Int) < (b : Int) := by omega
                first | (exfalso; omega) | skip
                all_goals
                  go_wp2_with fail
                  refine Calls.mono (HROT.out (by omega) (by omega)) ?_
                  rintro e w1 ⟨rfl, h1⟩
                  have S3 : Aside (SWK enc k w0 blk off (A ++ (X1 ++ (Y1 ++ (X2 ++ (Y2 ++ B))))).toArray w1) := h1
                  clear h1
                  clear HROT HN0
                  go_wp2_with fail
                  refine Calls.mono (HM1.out _ S3.out (by omega) (by omega)) ?_
                  rintro e w2 ⟨rfl, Z1, t1, t2, h2⟩
                  have S4 : Aside (SWK enc k w0 blk off (A ++ (Z1 ++ (X2 ++ (Y2 ++ B)))).toArray w2) := h2
                  have T1 : Hid (Srt Z1 ∧ StL (X1 ++ Y1) Z1) := ⟨t1, t2⟩
                  clear h2 t1 t2 S3
                  clear HM1 HN1
                  obtain ⟨Z2, hZ2⟩ : ∃ Z2, Z2 = X2 ++ Y2 := ⟨_, rfl⟩
                  have T2 : Hid (Srt Z2 ∧ StL (X2 ++ Y2) Z2) := by rw [hZ2]; exact ⟨HN2.out (by omega), StL.refl _⟩
                  have S5 : Aside (SWK enc k w0 blk off (A ++ ((Z1 ++ Z2) ++ B)).toArray w2) := by
                    refine (show SWK enc k w0 blk off _ w2 from ?_)
                    have := S4.out
                    rw [hZ2]
                    simpa using this
                  clear hZ2 S4
                  clear HM2 HN2
                  have ZZ := show Hid (_) from HZ.out Z1 Z2 T1.out.1 T2.out.1 T1.out.2 T2.out.2
                  clear HZ T1 T2 HLE
                  go_wp2
                  go_end0
                  exact ⟨rfl, _, ZZ.out.1, ZZ.out.2, S5.out⟩
            · by_cases q3 : en < b
              · have z1 : (s : Int) < (m : Int) := by omega
                have z2 : (mid : Int) < (en : Int) := by omega
                have z3 : (s : Int) < (mid : Int) := by omega
                have z4 : (m : Int) < (en : Int) := by omega
                have z5 : ¬ (a : Int) < (s : Int) := by omega
                have z6 : (en : Int) < (b : Int) := by omega
                first | (exfalso; omega) | skip
                all_goals
                  go_wp2_with fail
                  refine Calls.mono (HROT.out (by omega) (by omega)) ?_
                  rintro e w1 ⟨rfl, h1⟩
                  have S3 : Aside (SWK enc k w0 blk off (A ++ (X1 ++ (Y1 ++ (X2 ++ (Y2 ++ B))))).toArray w1) := h1
                  clear h1
                  clear HROT HN0
                  obtain ⟨Z1, hZ1⟩ : ∃ Z1, Z1 = X1 ++ Y1 := ⟨_, rfl⟩
                  have T1 : Hid (Srt Z1 ∧ StL (X1 ++ Y1) Z1) := by rw [hZ1]; exact ⟨HN1.out (by omega), StL.refl _⟩
                  have S4 : Aside (SWK enc k w0 blk off (A ++ (Z1 ++ (X2 ++ (Y2 ++ B)))).toArray w1) := by
                    refine (show SWK enc k w0 blk off _ w1 from ?_)
                    have := S3.out
                    rw [hZ1]
                    simpa using this
                  clear hZ1 S3
                  clear HM1 HN1
                  go_wp2_with fail
                  refine Calls.mono (HM2.out Z1 _ (HLE.out _ T1.out.2) S4.out (by omega) (by omega)) ?_
                  rintro e w3 ⟨rfl, Z2, t1, t2, h2⟩
                  have S5 : Aside (SWK enc k w0 blk off (A ++ ((Z1 ++ Z2) ++ B)).toArray w3) := by
                    refine (show SWK enc k w0 blk off _ w3 from ?_)
                    simpa using h2
                  have T2 : Hid (Srt Z2 ∧ StL (X2 ++ Y2) Z2) := ⟨t1, t2⟩
                  clear h2 t1 t2 S4
                  clear HM2 HN2
                  have ZZ := show Hid (_) from HZ.out Z1 Z2 T1.out.1 T2.out.1 T1.out.2 T2.out.2
                  clear HZ T1 T2 HLE
                  go_wp2
                  go_end0
                  exact ⟨rfl, _, ZZ.out.1, ZZ.out.2, S5.out⟩
              · have z1 : (s : Int) < (m : Int) := by omega
                have z2 : (mid : Int) < (en : Int) := by omega
                have z3 : (s : Int) < (mid : Int) := by omega
                have z4 : (m : Int) < (en : Int) := by omega
                have z5 : ¬ (a : Int) < (s : Int) := by omega
                have z6 : ¬ (en : Int) < (b : Int) := by omega
                first | (exfalso; omega) | skip
                all_goals
                  go_wp2_with fail
                  refine Calls.mono (HROT.out (by omega) (by omega)) ?_
                  rintro e w1 ⟨rfl, h1⟩
                  have S3 : Aside (SWK enc k w0 blk off (A ++ (X1 ++ (Y1 ++ (X2 ++ (Y2 ++ B))))).toArray w1) := h1
                  clear h1
                  clear HROT HN0
                  obtain ⟨Z1, hZ1⟩ : ∃ Z1, Z1 = X1 ++ Y1 := ⟨_, rfl⟩
                  have T1 : Hid (Srt Z1 ∧ StL (X1 ++ Y1) Z1) := by rw [hZ1]; exact ⟨HN1.out (by omega), StL.refl _⟩
                  have S4 : Aside (SWK enc k w0 blk off (A ++ (Z1 ++ (X2 ++ (Y2 ++ B)))).toArray w1) := by
                    refine (show SWK enc k w0 blk off _ w1 from ?_)
                    have := S3.out
                    rw [hZ1]
                    simpa using this
                  clear hZ1 S3
                  clear HM1 HN1
                  obtain ⟨Z2, hZ2⟩ : ∃ Z2, Z2 = X2 ++ Y2 := ⟨_, rfl⟩
                  have T2 : Hid (Srt Z2 ∧ StL (X2 ++ Y2) Z2) := by rw [hZ2]; exact ⟨HN2.out (by omega), StL.refl _⟩
                  have S5 : Aside (SWK enc k w0 blk off (A ++ ((Z1 ++ Z2) ++ B)).toArray w1) := by
                    refine (show SWK enc k w0 blk off _ w1 from ?_)
                    have := S4.out
                    rw [hZ2]
                    simpa using this
                  clear hZ2 S4
                  clear HM2 HN2
                  have ZZ := show Hid (_) from HZ.out Z1 Z2 T1.out.1 T2.out.1 T1.out.2 T2.out.2
                  clear HZ T1 T2 HLE
                  go_wp2
                  go_end0
                  exact ⟨rfl, _, ZZ.out.1, ZZ.out.2, S5.out⟩
          · by_cases q2 : a < s
            · by_cases q3 : en < b
              · have z1 : (s : Int) < (m : Int) := by omega
                have z2 : (mid : Int) < (en : Int) := by omega
                have z3 : ¬ (s : Int) < (mid : Int) := by omega
                have z4 : ¬ (m : Int) < (en : Int) := by omega
                have z5 : (a : Int) < (s : Int) := by omega
                have z6 : (en : Int) < (b : Int) := by omega
                first | (exfalso; omega) | skip
                all_goals
                  have S3 : Aside (SWK enc k w0 blk off (A ++ (X1 ++ (Y1 ++ (X2 ++ (Y2 ++ B))))).toArray wr) := HN0.out (by omega)
                  clear HROT HN0
                  obtain ⟨Z1, hZ1⟩ : ∃ Z1, Z1 = X1 ++ Y1 := ⟨_, rfl⟩
                  have T1 : Hid (Srt Z1 ∧ StL (X1 ++ Y1) Z1) := by rw [hZ1]; exact ⟨HN1.out (by omega), StL.refl _⟩
                  have S4 : Aside (SWK enc k w0 blk off (A ++ (Z1 ++ (X2 ++ (Y2 ++ B)))).toArray wr) := by
                    refine (show SWK enc k w0 blk off _ wr from ?_)
                    have := S3.out
                    rw [hZ1]
                    simpa using this
                  clear hZ1 S3
                  clear HM1 HN1
                  go_wp2_with fail
                  refine Calls.mono (HM2.out Z1 _ (HLE.out _ T1.out.2) S4.out (by omega) (by omega)) ?_
                  rintro e w3 ⟨rfl, Z2, t1, t2, h2⟩
                  have S5 : Aside (SWK enc k w0 blk off (A ++ ((Z1 ++ Z2) ++ B)).toArray w3) := by
                    refine (show SWK enc k w0 blk off _ w3 from ?_)
                    simpa using h2
                  have T2 : Hid (Srt Z2 ∧ StL (X2 ++ Y2) Z2) := ⟨t1, t2⟩
                  clear h2 t1 t2 S4
                  clear HM2 HN2
                  have ZZ := show Hid (_) from HZ.out Z1 Z2 T1.out.1 T2.out.1 T1.out.2 T2.out.2
                  clear HZ T1 T2 HLE
                  go_wp2
                  go_end0
                  exact ⟨rfl, _, ZZ.out.1, ZZ.out.2, S5.out⟩
              · have z1 : (s : Int) < (m : Int) := by omega
                have z2 : (mid : Int) < (en : Int) := by omega
                have z3 : ¬ (s : Int) < (mid : Int) := by omega
                have z4 : ¬ (m : Int) < (en : Int) := by omega
                have z5 : (a : Int) < (s : Int) := by omega
                have z6 : ¬ (en : Int) < (b : Int) := by omega
                first | (exfalso; omega) | skip
                all_goals
                  have S3 : Aside (SWK enc k w0 blk off (A ++ (X1 ++ (Y1 ++ (X2 ++ (Y2 ++ B))))).toArray wr) := HN0.out (by omega)
                  clear HROT HN0
                  obtain ⟨Z1, hZ1⟩ : ∃ Z1, Z1 = X1 ++ Y1 := ⟨_, rfl⟩
                  have T1 : Hid (Srt Z1 ∧ StL (X1 ++ Y1) Z1) := by rw [hZ1]; exact ⟨HN1.out (by omega), StL.refl _⟩
                  have S4 : Aside (SWK enc k w0 blk off (A ++ (Z1 ++ (X2 ++ (Y2 ++ B)))).toArray wr) := by
                    refine (show SWK enc k w0 blk off _ wr from ?_)
                    have := S3.out
                    rw [hZ1]
                    simpa using this
                  clear hZ1 S3
                  clear HM1 HN1
                  obtain ⟨Z2, hZ2⟩ : ∃ Z2, Z2 = X2 ++ Y2 := ⟨_, rfl⟩
                  have T2 : Hid (Srt Z2 ∧ StL (X2 ++ Y2) Z2) := by rw [hZ2]; exact ⟨HN2.out (by omega), StL.refl _⟩
                  have S5 : Aside (SWK enc k w0 blk off (A ++ ((Z1 ++ Z2) ++ B)).toArray wr) := by
                    refine (show SWK enc k w0 blk off _ wr from ?_)
                    have := S4.out
                    rw [hZ2]
                    simpa using this
                  clear hZ2 S4
                  clear HM2 HN2
                  have ZZ := show Hid (_) from HZ.out Z1 Z2 T1.out.1 T2.out.1 T1.out.2 T2.out.2
                  clear HZ T1 T2 HLE
                  go_wp2
                  go_end0
                  exact ⟨rfl, _, ZZ.out.1, ZZ.out.2, S5.out⟩
            · by_cases q3 : en < b
              · have z1 : (s : Int) < (m : Int) := by omega
                have z2 : (mid : Int) < (en : Int) := by omega
                have z3 : ¬ (s : Int) < (mid : Int) := by omega
                have z4 : ¬ (m : Int) < (en : Int) := by omega
                have z5 : ¬ (a : Int) < (s : Int) := by omega
                have z6 : (en : Int) < (b : Int) := by omega
                first | (exfalso; omega) | skip
                all_goals
                  have S3 : Aside (SWK enc k w0 blk off (A ++ (X1 ++ (Y1 ++ (X2 ++ (Y2 ++ B))))).toArray wr) := HN0.out (by omega)
                  clear HROT HN0
                  obtain ⟨Z1, hZ1⟩ : ∃ Z1, Z1 = X1 ++ Y1 := ⟨_, rfl⟩
                  have T1 : Hid (Srt Z1 ∧ StL (X1 ++ Y1) Z1) := by rw [hZ1]; exact ⟨HN1.out (by omega), StL.refl _⟩
                  have S4 : Aside (SWK enc k w0 blk off (A ++ (Z1 ++ (X2 ++ (Y2 ++ B)))).toArray wr) := by
                    refine (show SWK enc k w0 blk off _ wr from ?_)
                    have := S3.out
                    rw [hZ1]
                    simpa using this
                  clear hZ1 S3
                  clear HM1 HN1
                  go_wp2_with fail
                  refine Calls.mono (HM2.out Z1 _ (HLE.out _ T1.out.2) S4.out (by omega) (by omega)) ?_
                  rintro e w3 ⟨rfl, Z2, t1, t2, h2⟩
                  have S5 : Aside (SWK enc k w0 blk off (A ++ ((Z1 ++ Z2) ++ B)).toArray w3) := by
                    refine (show SWK enc k w0 blk off _ w3 from ?_)
                    simpa using h2
                  have T2 : Hid (Srt Z2 ∧ StL (X2 ++ Y2) Z2) := ⟨t1, t2⟩
                  clear h2 t1 t2 S4
                  clear HM2 HN2
                  have ZZ := show Hid (_) from HZ.out Z1 Z2 T1.out.1 T2.out.1 T1.out.2 T2.out.2
                  clear HZ T1 T2 HLE
                  go_wp2
                  go_end0
                  exact ⟨rfl, _, ZZ.out.1, ZZ.out.2, S5.out⟩
              · have z1 : (s : Int) < (m : Int) := by omega
                have z2 : (mid : Int) < (en : Int) := by omega
                have z3 : ¬ (s : Int) < (mid : Int) := by omega
                have z4 : ¬ (m : Int) < (en : Int) := by omega
                have z5 : ¬ (a : Int) < (s : Int) := by omega
                have z6 : ¬ (en : Int) < (b : Int) := by omega
                first | (exfalso; omega) | skip
                all_goals
                  have S3 : Aside (SWK enc k w0 blk off (A ++ (X1 ++ (Y1 ++ (X2 ++ (Y2 ++ B))))).toArray wr) := HN0.out (by omega)
                  clear HROT HN0
                  obtain ⟨Z1, hZ1⟩ : ∃ Z1, Z1 = X1 ++ Y1 := ⟨_, rfl⟩
                  have T1 : Hid (Srt Z1 ∧ StL (X1 ++ Y1) Z1) := by rw [hZ1]; exact ⟨HN1.out (by omega), StL.refl _⟩
                  have S4 : Aside (SWK enc k w0 blk off (A ++ (Z1 ++ (X2 ++ (Y2 ++ B)))).toArray wr) := by
                    refine (show SWK enc k w0 blk off _ wr from ?_)
                    have := S3.out
                    rw [hZ1]
                    simpa using this
                  clear hZ1 S3
                  clear HM1 HN1
                  obtain ⟨Z2, hZ2⟩ : ∃ Z2, Z2 = X2 ++ Y2 := ⟨_, rfl⟩
                  have T2 : Hid (Srt Z2 ∧ StL (X2 ++ Y2) Z2) := by rw [hZ2]; exact ⟨HN2.out (by omega), StL.refl _⟩
                  have S5 : Aside (SWK enc k w0 blk off (A ++ ((Z1 ++ Z2) ++ B)).toArray wr) := by
                    refine (show SWK enc k w0 blk off _ wr from ?_)
                    have := S4.out
                    rw [hZ2]
                    simpa using this
                  clear hZ2 S4
                  clear HM2 HN2
                  have ZZ := show Hid (_) from HZ.out Z1 Z2 T1.out.1 T2.out.1 T1.out.2 T2.out.2
                  clear HZ T1 T2 HLE
                  go_wp2
                  go_end0
                  exact ⟨rfl, _, ZZ.out.1, ZZ.out.2, S5.out⟩
        · by_cases q1 : s < mid
          · by_cases q2 : a < s
            · by_cases q3 : en < b
              · have z1 : ¬ (s : Int) < (m : Int) := by omega
                have z2 : ¬ (mid : Int) < (en : Int) := by omega
                have z3 : (s : Int) < (mid : Int) := by omega
                have z4 : (m : Int) < (en : Int) := by omega
                have z5 : (a : Int) < (s : Int) := by omega
                have z6 : (en : Int) < (b : Int) := by omega
                first | (exfalso; omega) | skip
                all_goals
                  have S3 : Aside (SWK enc k w0 blk off (A ++ (X1 ++ (Y1 ++ (X2 ++ (Y2 ++ B))))).toArray wr) := HN0.out (by omega)
                  clear HROT HN0
                  go_wp2_with fail
                  refine Calls.mono (HM1.out _ S3.out (by omega) (by omega)) ?_
                  rintro e w2 ⟨rfl, Z1, t1, t2, h2⟩
                  have S4 : Aside (SWK enc k w0 blk off (A ++ (Z1 ++ (X2 ++ (Y2 ++ B)))).toArray w2) := h2
                  have T1 : Hid (Srt Z1 ∧ StL (X1 ++ Y1) Z1) := ⟨t1, t2⟩
                  clear h2 t1 t2 S3
                  clear HM1 HN1
                  obtain ⟨Z2, hZ2⟩ : ∃ Z2, Z2 = X2 ++ Y2 := ⟨_, rfl⟩
                  have T2 : Hid (Srt Z2 ∧ StL (X2 ++ Y2) Z2) := by rw [hZ2]; exact ⟨HN2.out (by omega), StL.refl _⟩
                  have S5 : Aside (SWK enc k w0 blk off (A ++ ((Z1 ++ Z2) ++ B)).toArray w2) := by
                    refine (show SWK enc k w0 blk off _ w2 from ?_)
                    have := S4.out
                    rw [hZ2]
                    simpa using this
                  clear hZ2 S4
                  clear HM2 HN2
                  have ZZ := show Hid (_) from HZ.out Z1 Z2 T1.out.1 T2.out.1 T1.out.2 T2.out.2
                  clear HZ T1 T2 HLE
                  go_wp2
                  go_end0
                  exact ⟨rfl, _, ZZ.out.1, ZZ.out.2, S5.out⟩
              · have z1 : ¬ (s : Int) < (m : Int) := by omega
                have z2 : ¬ (mid : Int) < (en : Int) := by omega
                have z3 : (s : Int) < (mid : Int) := by omega
                have z4 : (m : Int) < (en : Int) := by omega
                have z5 : (a : Int) < (s : Int) := by omega
                have z6 : ¬ (en : Int) < (b : Int) := by omega
                first | (exfalso; omega) | skip
                all_goals
                  have S3 : Aside (SWK enc k w0 blk off (A ++ (X1 ++ (Y1 ++ (X2 ++ (Y2 ++ B))))).toArray wr) := HN0.out (by omega)
                  clear HROT HN0
                  go_wp2_with fail
                  refine Calls.mono (HM1.out _ S3.out (by omega) (by omega)) ?_
                  rintro e w2 ⟨rfl, Z1, t1, t2, h2⟩
                  have S4 : Aside (SWK enc k w0 blk off (A ++ (Z1 ++ (X2 ++ (Y2 ++ B)))).toArray w2) := h2
                  have T1 : Hid (Srt Z1 ∧ StL (X1 ++ Y1) Z1) := ⟨t1, t2⟩
                  clear h2 t1 t2 S3
                  clear HM1 HN1
                  obtain ⟨Z2, hZ2⟩ : ∃ Z2, Z2 = X2 ++ Y2 := ⟨_, rfl⟩
                  have T2 : Hid (Srt Z2 ∧ StL (X2 ++ Y2) Z2) := by rw [hZ2]; exact ⟨HN2.out (by omega), StL.refl _⟩
                  have S5 : Aside (SWK enc k w0 blk off (A ++ ((Z1 ++ Z2) ++ B)).toArray w2) := by
                    refine (show SWK enc k w0 blk off _ w2 from ?_)
                    have := S4.out
                    rw [hZ2]
                    simpa using this
                  clear hZ2 S4
                  clear HM2 HN2
                  have ZZ := show Hid (_) from HZ.out Z1 Z2 T1.out.1 T2.out.1 T1.out.2 T2.out.2
                  clear HZ T1 T2 HLE
                  go_wp2
                  go_end0
                  exact ⟨rfl, _, ZZ.out.1, ZZ.out.2, S5.out⟩
            · by_cases q3 : en < b
              · have z1 : ¬ (s : Int) < (m : Int) := by omega
                have z2 : ¬ (mid : Int) < (en : Int) := by omega
                have z3 : (s : Int) < (mid : Int) := by omega
                have z4 : (m : Int) < (en : Int) := by omega
                have z5 : ¬ (a : Int) < (s : Int) := by omega
                have z6 : (en : Int) < (b : Int) := by omega
                first | (exfalso; omega) | skip
                all_goals
                  have S3 : Aside (SWK enc k w0 blk off (A ++ (X1 ++ (Y1 ++ (X2 ++ (Y2 ++ B))))).toArray wr) := HN0.out (by omega)
                  clear HROT HN0
                  obtain ⟨Z1, hZ1⟩ : ∃ Z1, Z1 = X1 ++ Y1 := ⟨_, rfl⟩
                  have T1 : Hid (Srt Z1 ∧ StL (X1 ++ Y1) Z1) := by rw [hZ1]; exact ⟨HN1.out (by omega), StL.refl _⟩
                  have S4 : Aside (SWK enc k w0 blk off (A ++ (Z1 ++ (X2 ++ (Y2 ++ B)))).toArray wr) := by
                    refine (show SWK enc k w0 blk off _ wr from ?_)
                    have := S3.out
                    rw [hZ1]
                    simpa using this
                  clear hZ1 S3
                  clear HM1 HN1
                  obtain ⟨Z2, hZ2⟩ : ∃ Z2, Z2 = X2 ++ Y2 := ⟨_, rfl⟩
                  have T2 : Hid (Srt Z2 ∧ StL (X2 ++ Y2) Z2) := by rw [hZ2]; exact ⟨HN2.out (by omega), StL.refl _⟩
                  have S5 : Aside (SWK enc k w0 blk off (A ++ ((Z1 ++ Z2) ++ B)).toArray wr) := by
                    refine (show SWK enc k w0 blk off _ wr from ?_)
                    have := S4.out
                    rw [hZ2]
                    simpa using this
                  clear hZ2 S4
                  clear HM2 HN2
                  have ZZ := show Hid (_) from HZ.out Z1 Z2 T1.out.1 T2.out.1 T1.out.2 T2.out.2
                  clear HZ T1 T2 HLE
                  go_wp2
                  go_end0
                  exact ⟨rfl, _, ZZ.out.1, ZZ.out.2, S5.out⟩
              · have z1 : ¬ (s : Int) < (m : Int) := by omega
                have z2 : ¬ (mid : Int) < (en : Int) := by omega
                have z3 : (s : Int) < (mid : Int) := by omega
                have z4 : (m : Int) < (en : Int) := by omega
                have z5 : ¬ (a : Int) < (s : Int) := by omega
                have z6 : ¬ (en : Int) < (b : Int) := by omega
                first | (exfalso; omega) | skip
                all_goals
                  have S3 : Aside (SWK enc k w0 blk off (A ++ (X1 ++ (Y1 ++ (X2 ++ (Y2 ++ B))))).toArray wr) := HN0.out (by omega)
                  clear HROT HN0
                  obtain ⟨Z1, hZ1⟩ : ∃ Z1, Z1 = X1 ++ Y1 := ⟨_, rfl⟩
                  have T1 : Hid (Srt Z1 ∧ StL (X1 ++ Y1) Z1) := by rw [hZ1]; exact ⟨HN1.out (by omega), StL.refl _⟩
                  have S4 : Aside (SWK enc k w0 blk off (A ++ (Z1 ++ (X2 ++ (Y2 ++ B)))).toArray wr) := by
                    refine (show SWK enc k w0 blk off _ wr from ?_)
                    have := S3.out
                    rw [hZ1]
                    simpa using this
                  clear hZ1 S3
                  clear HM1 HN1
                  obtain ⟨Z2, hZ2⟩ : ∃ Z2, Z2 = X2 ++ Y2 := ⟨_, rfl⟩
                  have T2 : Hid (Srt Z2 ∧ StL (X2 ++ Y2) Z2) := by rw [hZ2]; exact ⟨HN2.out (by omega), StL.refl _⟩
                  have S5 : Aside (SWK enc k w0 blk off (A ++ ((Z1 ++ Z2) ++ B)).toArray wr) := by
                    refine (show SWK enc k w0 blk off _ wr from ?_)
                    have := S4.out
                    rw [hZ2]
                    simpa using this
                  clear hZ2 S4
                  clear HM2 HN2
                  have ZZ := show Hid (_) from HZ.out Z1 Z2 T1.out.1 T2.out.1 T1.out.2 T2.out.2
                  clear HZ T1 T2 HLE
                  go_wp2
                  go_end0
                  exact ⟨rfl, _, ZZ.out.1, ZZ.out.2, S5.out⟩
          · by_cases q2 : a < s
            · by_cases q3 : en < b
              · have z1 : ¬ (s : Int) < (m : Int) := by omega
                have z2 : ¬ (mid : Int) < (en : Int) := by omega
                have z3 : ¬ (s : Int) < (mid : Int) := by omega
                have z4 : ¬ (m : Int) < (en : Int) := by omega
                have z5 : (a : Int) < (s : Int) := by omega
                have z6 : (en : Int) < (b : Int) := by omega
                first | (exfalso; omega) | skip
                all_goals
                  have S3 : Aside (SWK enc k w0 blk off (A ++ (X1 ++ (Y1 ++ (X2 ++ (Y2 ++ B))))).toArray wr) := HN0.out (by omega)
                  clear HROT HN0
                  obtain ⟨Z1, hZ1⟩ : ∃ Z1, Z1 = X1 ++ Y1 := ⟨_, rfl⟩
                  have T1 : Hid (Srt Z1 ∧ StL (X1 ++ Y1) Z1) := by rw [hZ1]; exact ⟨HN1.out (by omega), StL.refl _⟩
                  have S4 : Aside (SWK enc k w0 blk off (A ++ (Z1 ++ (X2 ++ (Y2 ++ B)))).toArray wr) := by
                    refine (show SWK enc k w0 blk off _ wr from ?_)
                    have := S3.out
                    rw [hZ1]
                    simpa using this
                  clear hZ1 S3
                  clear HM1 HN1
                  obtain ⟨Z2, hZ2⟩ : ∃ Z2, Z2 = X2 ++ Y2 := ⟨_, rfl⟩
                  have T2 : Hid (Srt Z2 ∧ StL (X2 ++ Y2) Z2) := by rw [hZ2]; exact ⟨HN2.out (by omega), StL.refl _⟩
                  have S5 : Aside (SWK enc k w0 blk off (A ++ ((Z1 ++ Z2) ++ B)).toArray wr) := by
                    refine (show SWK enc k w0 blk off _ wr from ?_)
                    have := S4.out
                    rw [hZ2]
                    simpa using this
                  clear hZ2 S4
                  clear HM2 HN2
                  have ZZ := show Hid (_) from HZ.out Z1 Z2 T1.out.1 T2.out.1 T1.out.2 T2.out.2
                  clear HZ T1 T2 HLE
                  go_wp2
                  go_end0
                  exact ⟨rfl, _, ZZ.out.1, ZZ.out.2, S5.out⟩
              · have z1 : ¬ (s : Int) < (m : Int) := by omega
                have z2 : ¬ (mid : Int) < (en : Int) := by omega
                have z3 : ¬ (s : Int) < (mid : Int) := by omega
                have z4 : ¬ (m : Int) < (en : Int) := by omega
                have z5 : (a : Int) < (s : Int) := by omega
                have z6 : ¬ (en : Int) < (b : Int) := by omega
                first | (exfalso; omega) | skip
                all_goals
                  have S3 : Aside (SWK enc k w0 blk off (A ++ (X1 ++ (Y1 ++ (X2 ++ (Y2 ++ B))))).toArray wr) := HN0.out (by omega)
                  clear HROT HN0
                  obtain ⟨Z1, hZ1⟩ : ∃ Z1, Z1 = X1 ++ Y1 := ⟨_, rfl⟩
                  have T1 : Hid (Srt Z1 ∧ StL (X1 ++ Y1) Z1) := by rw [hZ1]; exact ⟨HN1.out (by omega), StL.refl _⟩
                  have S4 : Aside (SWK enc k w0 blk off (A ++ (Z1 ++ (X2 ++ (Y2 ++ B)))).toArray wr) := by
                    refine (show SWK enc k w0 blk off _ wr from ?_)
                    have := S3.out
                    rw [hZ1]
                    simpa using this
                  clear hZ1 S3
                  clear HM1 HN1
                  obtain ⟨Z2, hZ2⟩ : ∃ Z2, Z2 = X2 ++ Y2 := ⟨_, rfl⟩
                  have T2 : Hid (Srt Z2 ∧ StL (X2 ++ Y2) Z2) := by rw [hZ2]; exact ⟨HN2.out (by omega), StL.refl _⟩
                  have S5 : Aside (SWK enc k w0 blk off (A ++ ((Z1 ++ Z2) ++ B)).toArray wr) := by
                    refine (show SWK enc k w0 blk off _ wr from ?_)
                    have := S4.out
                    rw [hZ2]
                    simpa using this
                  clear hZ2 S4
                  clear HM2 HN2
                  have ZZ := show Hid (_) from HZ.out Z1 Z2 T1.out.1 T2.out.1 T1.out.2 T2.out.2
                  clear HZ T1 T2 HLE
                  go_wp2
                  go_end0
                  exact ⟨rfl, _, ZZ.out.1, ZZ.out.2, S5.out⟩
            · by_cases q3 : en < b
              · have z1 : ¬ (s : Int) < (m : Int) := by omega
                have z2 : ¬ (mid : Int) < (en : Int) := by omega
                have z3 : ¬ (s : Int) < (mid : Int) := by omega
                have z4 : ¬ (m : Int) < (en : Int) := by omega
                have z5 : ¬ (a : Int) < (s : Int) := by omega
                have z6 : (en : Int) < (b : Int) := by omega
                first | (exfalso; omega) | skip
                all_goals
                  have S3 : Aside (SWK enc k w0 blk off (A ++ (X1 ++ (Y1 ++ (X2 ++ (Y2 ++ B))))).toArray wr) := HN0.out (by omega)
                  clear HROT HN0
                  obtain ⟨Z1, hZ1⟩ : ∃ Z1, Z1 = X1 ++ Y1 := ⟨_, rfl⟩
                  have T1 : Hid (Srt Z1 ∧ StL (X1 ++ Y1) Z1) := by rw [hZ1]; exact ⟨HN1.out (by omega), StL.refl _⟩
                  have S4 : Aside (SWK enc k w0 blk off (A ++ (Z1 ++ (X2 ++ (Y2 ++ B)))).toArray wr) := by
                    refine (show SWK enc k w0 blk off _ wr from ?_)
                    have := S3.out
                    rw [hZ1]
                    simpa using this
                  clear hZ1 S3
                  clear HM1 HN1
                  obtain ⟨Z2, hZ2⟩ : ∃ Z2, Z2 = X2 ++ Y2 := ⟨_, rfl⟩
                  have T2 : Hid (Srt Z2 ∧ StL (X2 ++ Y2) Z2) := by rw [hZ2]; exact ⟨HN2.out (by omega), StL.refl _⟩
                  have S5 : Aside (SWK enc k w0 blk off (A ++ ((Z1 ++ Z2) ++ B)).toArray wr) := by
                    refine (show SWK enc k w0 blk off _ wr from ?_)
                    have := S4.out
                    rw [hZ2]
                    simpa using this
                  clear hZ2 S4
                  clear HM2 HN2
                  have ZZ := show Hid (_) from HZ.out Z1 Z2 T1.out.1 T2.out.1 T1.out.2 T2.out.2
                  clear HZ T1 T2 HLE
                  go_wp2
                  go_end0
                  exact ⟨rfl, _, ZZ.out.1, ZZ.out.2, S5.out⟩
              · have z1 : ¬ (s : Int) < (m : Int) := by omega
                have z2 : ¬ (mid : Int) < (en : Int) := by omega
                have z3 : ¬ (s : Int) < (mid : Int) := by omega
                have z4 : ¬ (m : Int) < (en : Int) := by omega
                have z5 : ¬ (a : Int) < (s : Int) := by omega
                have z6 : ¬ (en : Int) < (b : Int) := by omega
                first | (exfalso; omega) | skip
                all_goals
                  have S3 : Aside (SWK enc k w0 blk off (A ++ (X1 ++ (Y1 ++ (X2 ++ (Y2 ++ B))))).toArray wr) := HN0.out (by omega)
                  clear HROT HN0
                  obtain ⟨Z1, hZ1⟩ : ∃ Z1, Z1 = X1 ++ Y1 := ⟨_, rfl⟩
                  have T1 : Hid (Srt Z1 ∧ StL (X1 ++ Y1) Z1) := by rw [hZ1]; exact ⟨HN1.out (by omega), StL.refl _⟩
                  have S4 : Aside (SWK enc k w0 blk off (A ++ (Z1 ++ (X2 ++ (Y2 ++ B)))).toArray wr) := by
                    refine (show SWK enc k w0 blk off _ wr from ?_)
                    have := S3.out
                    rw [hZ1]
                    simpa using this
                  clear hZ1 S3
                  clear HM1 HN1
                  obtain ⟨Z2, hZ2⟩ : ∃ Z2, Z2 = X2 ++ Y2 := ⟨_, rfl⟩
                  have T2 : Hid (Srt Z2 ∧ StL (X2 ++ Y2) Z2) := by rw [hZ2]; exact ⟨HN2.out (by omega), StL.refl _⟩
                  have S5 : Aside (SWK enc k w0 blk off (A ++ ((Z1 ++ Z2) ++ B)).toArray wr) := by
                    refine (show SWK enc k w0 blk off _ wr from ?_)
                    have := S4.out
                    rw [hZ2]
                    simpa using this
                  clear hZ2 S4
                  clear HM2 HN2
                  have ZZ := show Hid (_) from HZ.out Z1 Z2 T1.out.1 T2.out.1 T1.out.2 T2.out.2
                  clear HZ T1 T2 HLE
                  go_wp2
                  go_end0
                  exact ⟨rfl, _, ZZ.out.1, ZZ.out.2, S5.out⟩

/-- symMerge: two sorted ranges that follow one another become one sorted range, the order of equals kept. -/
theorem symmerge_any {P : Program} {k : Nat} (L : SL P k) {enc : Ch → List Value} {w0 : World} {blk off cap N : Nat} {d0 : Array Ch} {cb : Array Value} (R : RowK enc k w0 blk off d0) (C : CmpLays P 34 cb enc k cf blk off N w0) (hs : d0.size = N) (hsz : N ≤ 1000000) : ∀ n, SymOk P k enc w0 blk off cap N cb n := by
  intro n
  induction n with
  | zero => intro A X Y B a m b w h1 h2 h3 h4 h5 h6; omega
  | succ n ih =>
    intro A X Y B a m b w h1 h2 h3 h4 h5 h6 h7 h8 h9 S
    by_cases c1 : X.length = 1
    · obtain ⟨x, rfl⟩ := List.length_eq_one_iff.1 c1
      have := symone_any L (cap := cap) R C A Y B x a b w h2 (by omega) hs (by simpa using h7) hsz h9 (by simpa using S)
      rw [show (a : Int) + 1 = (m : Int) by omega] at this
      exact this
    by_cases c2 : Y.length = 1
    · obtain ⟨y, rfl⟩ := List.length_eq_one_iff.1 c2
      have := symlast_any L (cap := cap) R C A X B y a m w h2 h3 c1 hs (by simpa using h7) hsz h8 (by simpa using S)
      rw [show (m : Int) + 1 = (b : Int) by omega] at this
      exact this
    exact symgen_any L R C n ih A X Y B a m b w (by omega) h2 h3 h4 (by omega) (by omega) hs h7 hsz h8 h9 S
end
end Go.Proofs.Ytipddddpdldokaa
