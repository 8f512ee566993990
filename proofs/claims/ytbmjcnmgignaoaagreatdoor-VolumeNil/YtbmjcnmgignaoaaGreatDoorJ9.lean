/- What shardsOf returns. -/
import Derived.Test.YtbmjcnmgignaoaaGreatDoorJ8
import Derived.RangeFuncNested
import Derived.RangeFuncBound
import Derived.RangeFuncCalls
import Derived.RangeFuncLeaves
import Derived.RangeFuncBox
import Derived.Sort.QuietIn
import Derived.OwnWalkIn
import Derived.Shelf.SlIterI.Nil
import Derived.Shelf.SortM.Plain
import Derived.Shelf.SortM.SortNone
import Derived.Shelf.SlGeneric
import Derived.Test.YtbmjcnmgignaoaaGreatDoorProg

namespace Go.Proofs.YtbmjcnmgignaoaaGreatDoor
open Go.RowKit Vecm Opened Wirem Txt Frm Diskm Arym Volm Intm
open Blkm (Bk bk0 owE owB sealE sealS)
open Cfm (Cf)
open Crcm (bys)
set_option linter.unusedVariables false

/-- The shards of a text, for these disks. -/
def shX (c : Cf) (s : ByteArray) (d : Int) : ByteArray := (splS c s).getD d.toNat ⟨#[]⟩
def soE (c : Cf) (id n epoch : Int) (s : ByteArray) (l : List Int) : Int := if splE c s = 0 then slE id (Cfm.stripeN c n) epoch (shX c s) l else splE c s
def soL (c : Cf) (id n epoch : Int) (s : ByteArray) (l : List Int) : List It := slL id (Cfm.stripeN c n) epoch (shX c s) l

set_option maxRecDepth 100000 in
set_option maxHeartbeats 2000000 in
theorem shardsof_any {w : World} {pv pa : Nat} {fp : List Nat} {A : Ar} {c : Cf} {id seq : Int} (h : IsW w pv pa fp A c id seq) (n epoch : Int) (hn : n ≤ 9223372036854775807) (s : ByteArray) (hs : s.size ≤ 140737488355328) (l : List Int) (v : Value) (base : Nat)
    (ho : w.ownsRow base 3 1 v l.length (zcs l)) (hl : l.length ≤ 1000) (hq : splE c s = 0 → 0 < (splS c s).length) (hd : splE c s = 0 → ∀ d ∈ l, 0 ≤ d ∧ d < ((splS c s).length : Int))
    (hk : ∀ d ∈ l, BkOk (bkOf id (Cfm.stripeN c n) epoch (shX c s) d)) :
    Calls Tryz.prog 20 #[.pointer (some ⟨pv, 0, none⟩), v, .int .i64 n, .int .i64 epoch, .string s] w (SlP w (soE c id n epoch s l) (soL c id n epoch s l)) := by
  have CP : Hid (∀ W, Calls Tryz.prog 35 #[.agg (cfC c), .string s] W (TellsC W (splS c s) (splE c s))) := show ∀ W, _ from fun W => split_any c.k c.m c.sh c.st c.sl s W hs
  have CH : Hid (∀ W g off len cap, splE c s = 0 → len = (splS c s).length → Below w.heap.size w W → IsS W (some ⟨g, off, none⟩) len (splS c s) → Calls Tryz.prog 36 #[.pointer (some ⟨pv, 0, none⟩), v, .int .i64 n, .int .i64 epoch, .slice (some ⟨g, off, none⟩) len cap] W (SlP w (slE id (Cfm.stripeN c n) epoch (shX c s) l) (slL id (Cfm.stripeN c n) epoch (shX c s) l))) := show ∀ W g off len cap, _ → _ → _ → _ → _ from fun W g off len cap he hlen hW hS => by
    refine (shards_any (h.below hW) n epoch hn l v base (own_kept ho (Fr.of_below (fp := []) hW) (by simp)) hl (ps := splS c s) (len := len) (g := g) (off := off) (cap := cap) (fun W' hW' i hi => ?_) (fun d hdl => by rw [hlen]; exact hd he d hdl) hk).mono fun e w' hh => hh.up hW
    obtain ⟨b', off', e', hl', hc'⟩ := hS.2.2.2 (by omega)
    cases e'
    exact (hW'.cell hl').trans (hc' i hi)
  have x1 : w.cell? ⟨pv, 1, none⟩ = some (.int .i64 c.k) := h.row.cell rfl
  have x2 : w.cell? ⟨pv, 2, none⟩ = some (.int .i64 c.m) := h.row.cell rfl
  have x3 : w.cell? ⟨pv, 3, none⟩ = some (.int .i64 c.sh) := h.row.cell rfl
  have x4 : w.cell? ⟨pv, 4, none⟩ = some (.int .i64 c.st) := h.row.cell rfl
  have x5 : w.cell? ⟨pv, 5, none⟩ = some (.int .i64 c.sl) := h.row.cell rfl
  obtain ⟨va, vc, hve⟩ : ∃ va vc, v = .slice va l.length vc := by
    obtain ⟨a, cp, e, _⟩ := own_zcs ho
    exact ⟨a, cp, e⟩
  have HNO : Hid (splE c s ≠ 0 → soE c id n epoch s l = splE c s) := show _ → _ from fun h => if_neg h
  have HYE : Hid (splE c s = 0 → soE c id n epoch s l = slE id (Cfm.stripeN c n) epoch (shX c s) l) := show _ → _ from fun h => if_pos h
  have HQ : Hid (splE c s = 0 → 0 < (splS c s).length) := hq
  generalize soE c id n epoch s l = RE at HNO HYE ⊢
  unfold soL
  generalize slE id (Cfm.stripeN c n) epoch (shX c s) l = E at CH HYE
  generalize slL id (Cfm.stripeN c n) epoch (shX c s) l = R at CH ⊢
  generalize splE c s = E1 at CP CH HNO HYE HQ
  generalize splS c s = PS at CP CH HQ
  obtain ⟨ck, cm, csh, cst, csl⟩ := c
  rw [cfC] at CP
  dsimp only at CP x1 x2 x3 x4 x5
  subst hve
  clear h ho hk hd hq
  go_enter Tryz.func20, Tryz.ntmps20
  go_wp2_with fail
  refine Calls.mono (CP.out _) ?_
  rintro e w1 ⟨a1, n1, q1, rfl, i1, b1⟩
  have B1 : Hid (Below w.heap.size w w1) := b1
  by_cases hE : E1 = 0
  case neg =>
    have HF := show Hid (_) from HNO.out hE
    have HN : Hid (E1 ≠ 0) := hE
    have hne : (E1 != 0) = true := by rw [bne_iff_ne]; exact hE
    clear hE i1 b1 x1 x2 x3 x4 x5
    go_wp2
    go_ret2
    exact ⟨B1.out, .inr ⟨HF.out ▸ HN.out, congrArg (fun x => Ending.returned (.tuple #[.slice none 0 0, .int .i64 x])) HF.out.symm⟩⟩
  have HF := show Hid (_) from HYE.out hE
  have hpos := HQ.out hE
  obtain ⟨g, off, rfl, _⟩ := i1.1.2.2.2 (by have := i1.1.1; omega)
  have C2 : Hid (_) := CH.out w1 g off n1 q1 hE i1.1.1.symm b1 i1.1
  subst hE
  clear i1 b1 x1 x2 x3 x4 x5 hpos
  go_wp2_with fail
  refine Calls.mono C2.out ?_
  rintro e w2 hh
  obtain ⟨v', rfl, h2⟩ := hh.is
  have HH : Hid (SlP w E R (.returned (.tuple #[v', .int .i64 E])) w2) := h2
  clear hh h2 C2
  go_wp2
  go_ret2
  rw [HF.out]
  exact HH.out
end Go.Proofs.YtbmjcnmgignaoaaGreatDoor

/- The statement 'range over a function', where caller and iterator share one invariant: the iterator tells the round what it knows of what it hands on. -/
namespace Rgf
open Go Go.RowKit
set_option linter.unusedVariables false
variable {F : Fence} {n : Nat} {P : Program}

/-- How a round may be left: off its end, or by an exit. -/
def Left {α : Type} (B : Nat) (J : List α → World → Prop) (Jx : Code → World → Prop) (xs : List α) (W : World) : Exit → Act → World → Prop
  | .normal, _, W' => KeepsFrom B W W' ∧ J xs W'
  | .exit id, _, W' => KeepsFrom B W W' ∧ Jx (.exit id) W'
  | .ret, _, _ => False
  | .goto _, _, _ => False
  | .panic _, _, _ => False
  | .outgrown, _, _ => False
/-- What holds of a world does so behind a turn of a block that is no cells. -/
def Bides (B : Nat) (I : World → Prop) : Prop := ∀ W l o o', B ≤ l → W.heap[l]? = some o → o.isCells = false → I W → I (W.putObj l o')
theorem range_law {α β : Type} {g : Operand} {ps : Array Tmp} {assign body : Code} {Q : Exit → Act → World → Prop} {a : Act} {w : World}
    (hro : F.round = none) (h1 : 1 ≤ n) {gf : Nat} {lb : Array Value} (hg : a.eval g = .func (.func gf) #[] lb) (hFg : F.fn gf) (eg : ∀ args w, (callFunc gf args).run P w = .ok (.enter gf args) w)
    {encs : α → Array Value} (hps : ∀ x, (encs x).size = ps.size)
    (J : β → List α → World → Prop) (G : β → List α → α → World → Prop) (S : β → List α → Prop) (Jx : Code → World → Prop) (Ax : β → List α → α → Act → World → Prop)
    (hJ : ∀ b pre, Bides w.heap.size (J b pre)) (hJx : ∀ c, Bides w.heap.size (Jx c)) (hAx : ∀ b pre x a', Bides w.heap.size (Ax b pre x a'))
    (hit : ∀ (Bk X : World → Prop), (∀ W W', Bk W → KeepsFrom w.heap.size W W' → Bk W') →
      (∀ b pre x W, J b pre W → G b pre x W → Bk W → YieldAt F (n - 1 - 1) P (w.heap.size + 1) (encs x) W fun e W' => (e = .returned (.bool true) ∧ J b (pre ++ [x]) W' ∧ Bk W') ∨ (e = .returned (.bool false) ∧ X W')) →
      ∀ o, o.isCells = false → Bk ((w.alloc (.deferred (some []))).alloc o) →
        CallsIn F (n - 1) P gf (#[.func (.yield (w.heap.size + 1)) #[] #[]] ++ lb) ((w.alloc (.deferred (some []))).alloc o) fun e W' => (∃ v, e = .returned v) ∧ ((∃ b ys, S b ys ∧ J b ys W' ∧ Bk W') ∨ X W'))
    (hassign : ∀ (l : Nat) b pre x W (K : Act → World → Prop), J b pre W → G b pre x W → (∀ a' W', KeepsFrom w.heap.size W W' → Ax b pre x a' W' → K a' W') →
      assign.wpIn (F.inRound l) (n - 1 - 1) P (Exit.then K (fun _ _ _ => False)) { tmps := (ps.zip (encs x)).foldl (fun t (p, v) => t.setIfInBounds p v) a.tmps, defers := [] } W)
    (hbody : ∀ (l : Nat) b pre x a' W, Ax b pre x a' W → body.wpIn (F.inRound l) (n - 1 - 1) P (Left w.heap.size (J b) Jx (pre ++ [x]) W) a' W)
    (hdone : ∀ (D : Nat) b ys W, w.heap.size ≤ D → S b ys → J b ys W → W.heap[D]? = some (.deferred (some [])) → Q .normal { a with defers := { target := .collected D, args := #[] } :: a.defers } W)
    (hstop : ∀ (D : Nat) (c : Code) W, w.heap.size ≤ D → Jx c W → W.heap[D]? = some (.deferred (some [])) → c.wpIn F n P Q { a with defers := { target := .collected D, args := #[] } :: a.defers } W) :
    (Code.rangeFunc g ps assign body).wpIn F n P Q a w := by
  refine wpIn_rangeFunc fun fn hfn => ?_
  rw [hro]
  obtain ⟨R, hR⟩ : ∃ R : LoopState → Option Code → Loop, R = fun st pe => { state := st, pending := pe, fn, tmps := a.tmps, params := ps, assign, body, defers := w.heap.size } := ⟨_, rfl⟩
  refine ⟨w.heap.size + 1, [{ target := .collected w.heap.size, args := #[] }], (w.alloc (.deferred (some []))).alloc (.loop (R .ready none)), { target := .fn (.func gf) lb, args := #[.func (.yield (w.heap.size + 1)) #[] #[]] }, (w.alloc (.deferred (some []))).alloc (.loop (R .ready none)), gf,
    #[.func (.yield (w.heap.size + 1)) #[] #[]] ++ lb, (w.alloc (.deferred (some []))).alloc (.loop (R .ready none)), ?_, ?_, ?_, ?_, fun _ => h1, ?_⟩
  · rw [hR]; exact run_enterLoop_outer _ _ _ _ _
  · simp only [resolve, hg]
    simp [go_sem]
  · intro f' hf'
    simp [Target.leads] at hf'
    subst hf'; exact hFg
  · simp [invoke, go_sem, eg]
  have l0 : ((w.alloc (.deferred (some []))).alloc (.loop (R .ready none))).heap[w.heap.size + 1]? = some (.loop (R .ready none)) := by
    have := World.alloc_heap_new (w.alloc (.deferred (some []))) (.loop (R .ready none))
    rwa [World.size_alloc] at this
  have k0 : ((w.alloc (.deferred (some []))).alloc (.loop (R .ready none))).heap[w.heap.size]? = some (.deferred (some [])) := (Below.heap_alloc _ _ _ (by simp)).trans (World.alloc_heap_new w _)
  refine CallsIn.mono (hit (fun W => W.heap[w.heap.size + 1]? = some (.loop (R .ready none)) ∧ W.heap[w.heap.size]? = some (.deferred (some [])))
    (fun W => ∃ c, Jx c W ∧ W.heap[w.heap.size + 1]? = some (.loop (R .done (some c))) ∧ W.heap[w.heap.size]? = some (.deferred (some [])))
    (fun W W' h k => ⟨k.same _ _ (by omega) h.1 rfl, k.same _ _ (Nat.le_refl _) h.2 rfl⟩) ?_ _ rfl ⟨l0, k0⟩) ?_
  · rintro b pre x W hj hG ⟨hl, hk⟩
    have hy := run_yield (P := P) (args := encs x) hl (by rw [hR]; exact hps x)
    rw [hR] at hy
    refine ⟨fn, _, assign, body, hy, roundIn_of_wpIn hfn (hassign _ b pre x W _ hj hG ?_)⟩
    intro a' Wa hkf hax
    have hl1 := hkf.same _ _ (by omega) hl rfl
    have hk1 := hkf.same _ _ (Nat.le_refl _) hk rfl
    have hlt : w.heap.size + 1 < Wa.heap.size := (Array.getElem?_eq_some_iff.1 hl1).1
    refine ⟨_, run_beginRound hl1 (by rw [hR]), ?_⟩
    have hl2 : (Wa.putObj (w.heap.size + 1) (.loop { R .ready none with state := .busy })).heap[w.heap.size + 1]? = some (.loop { R .ready none with state := .busy }) := World.putObj_heap_same hlt
    have hk2 : (Wa.putObj (w.heap.size + 1) (.loop { R .ready none with state := .busy })).heap[w.heap.size]? = some (.deferred (some [])) := (World.putObj_heap_other (by omega)).trans hk1
    refine wpIn_mono (hbody _ b pre x a' _ (hAx b pre x a' _ _ _ _ (by omega) hl1 rfl hax)) ?_
    have fin : ∀ (jump : Option Code) (W3 : World), KeepsFrom w.heap.size (Wa.putObj (w.heap.size + 1) (.loop { R .ready none with state := .busy })) W3 →
        ∃ W4, (Instr.endRound (w.heap.size + 1) jump).run P W3 = .ok (.bool jump.isNone) W4 ∧ W4.heap[w.heap.size + 1]? = some (.loop (R (if jump.isNone then .ready else .done) jump)) ∧ W4.heap[w.heap.size]? = some (.deferred (some [])) ∧ ∀ I, Bides w.heap.size I → I W3 → I W4 := fun jump W3 hk3 => by
      have hl3 := hk3.same _ _ (by omega) hl2 rfl
      have hr := run_endRound (P := P) jump hl3
      refine ⟨_, hr, ?_, (World.putObj_heap_other (by omega)).trans (hk3.same _ _ (Nat.le_refl _) hk2 rfl), fun I hI h => hI _ _ _ _ (by omega) hl3 rfl h⟩
      rw [World.putObj_heap_same (Array.getElem?_eq_some_iff.1 hl3).1, hR]
    rintro e a3 W3 hp
    cases e with
    | normal =>
      obtain ⟨W4, hr, h4, h5, h6⟩ := fin none W3 hp.1
      exact ⟨_, _, hr, .inl ⟨rfl, h6 _ (hJ b _) hp.2, h4, h5⟩⟩
    | exit id =>
      obtain ⟨W4, hr, h4, h5, h6⟩ := fin (some (.exit id)) W3 hp.1
      exact ⟨_, _, hr, .inr ⟨rfl, .exit id, h6 _ (hJx _) hp.2, h4, h5⟩⟩
    | ret => exact hp.elim
    | goto t => exact hp.elim
    | panic ch => exact hp.elim
    | outgrown => exact hp.elim
  · rintro e W2 ⟨⟨v, rfl⟩, (⟨b, ys, hS, hj, hl, hk⟩ | ⟨c, hc, hl, hk⟩)⟩
    · have hr := run_endLoop (P := P) hl (by rw [hR]; simp)
      rw [hR] at hr
      exact ⟨none, _, hr, hdone _ b ys _ (Nat.le_refl _) hS (hJ b ys _ _ _ _ (by omega) hl rfl hj) ((World.putObj_heap_other (by omega)).trans hk)⟩
    · have hr := run_endLoop (P := P) hl (by rw [hR]; simp)
      rw [hR] at hr
      exact ⟨some c, _, hr, hstop _ c _ (Nat.le_refl _) (hJx c _ _ _ _ (by omega) hl rfl hc) ((World.putObj_heap_other (by omega)).trans hk)⟩

end Rgf

/- An append to a row of one's own, inside a fence: behind it the row lies where it lay, or in a new block. -/
namespace Frm
open Go Go.RowKit
set_option linter.unusedVariables false

theorem wpListIn_append_at {F : Fence} {n : Nat} {P : Program} (w : World) {ops : Array Oper} {rest : List Oper} {o : Oper} {a : Act} {Q : Exit → Act → World → Prop} (hgd : o.guard = none) (s x : Operand) (t : TypeId)
    (ho : o.op = .call { callee := .builtin .append, args := #[s, x], argTypes := #[t, t] })
    (base : Nat) (e : TypeId) (i : TypeInfo) (z : Value) (size bytes : Nat) (ht : P.underlying t = some (.slice e)) (hi : P.info? e = some i) (hz : i.zero = some z)
    (hsize : i.size = size) (hby : i.bytes = bytes) (hzs : z.cells.size = size) (hsz : 0 < size)
    (v : Value) (k : Nat) (xs : List Value) (hs : a.eval s = v) (hown : w.ownsRow base e size v k xs)
    (ad : Addr) (m c : Nat) (news : List Value) (hx : a.eval x = .slice (some ad) m c) (hl : news.length = m * size) (hnews : ∀ j u, news[j]? = some u → w.cell? (ad.add j) = some u) (h1 : ∀ u ∈ news, u.oneCell' = true)
    (h63 : k + m ≤ maxLen) (hbytes : (k + m) * bytes ≤ 140737488355328) (hbase : base ≤ w.heap.size)
    (h : ∀ v' w', w'.ownsRow base e size v' (k + m) (xs ++ news) → Fr (blk v) w w' → (∀ j ∈ blk v', j ∈ blk v ∨ w.heap.size ≤ j) → wpListIn F n P ops Q rest (a.put o.dst v') w') : wpListIn F n P ops Q (o :: rest) a w := by
  refine wpListIn_plain hgd fun K hK' => ?_
  obtain ⟨v', w', hr, h2, h3, h4⟩ := run_append_at (P := P) w base t o.type e i z size bytes ht hi hz hsize hby hzs hsz v k xs hown ad m c news hl hnews h1 h63 hbytes hbase
  refine ⟨?_, ?_⟩
  · simp [Oper.about, ho, resolve, Target.leads, Sem.run_pure]
  · rw [Oper.semAt_plain F _ _ (by rw [ho]; intro c hc'; cases hc')]
    simp [execOp, ho, resolve, invoke, builtin, hs, hx, hr, Result.andThen]
    exact hK' _ _ (h v' w' h2 h3 h4)
end Frm

/- What slices.Collect returns of slices.Values, at numbers. -/
namespace Go.Proofs.YtbmjcnmgignaoaaGreatDoor
open Go.RowKit Go.Shelf Frm Rgf

set_option linter.unusedVariables false
attribute [local go_sem] Oper.semAt_some

set_option maxRecDepth 100000 in
theorem values_any (a : Option Addr) (n c : Nat) (w : World) : Calls Tryz.prog 89 #[.slice a n c] w fun e w' => e = .returned (.func (.func 131) #[] #[.pointer (some ⟨w.heap.size, 0, none⟩)]) ∧ w' = w.alloc (.cells #[.slice a n c] 47) := by
  have hmf : ∀ (fn : Fn) (first cap : Array Value) (w : World), (Instr.makeFunc fn first cap).run Tryz.prog w = .ok (.func fn first cap) w := fun _ _ _ _ => rfl
  go_enter Tryz.func89, Tryz.ntmps89
  go_wp2
  go_ret
  exact ⟨rfl, rfl⟩

theorem erow_put {W : World} {k l : Nat} {e : TypeId} {cs : Array Value} {o o' : Obj} (h : Row W k e cs) (ho : W.heap[l]? = some o) (hc : o.isCells = false) : Row (W.putObj l o') k e cs :=
  (World.putObj_heap_other fun e' => by
    subst e'
    have h1 : W.heap[k]? = some (.cells cs e (0, 0)) := h
    rw [h1] at ho
    cases ho
    cases hc).trans h
theorem eown_put {W : World} {base z n l : Nat} {e : TypeId} {v : Value} {xs : List Value} {o o' : Obj} (h : W.ownsRow base e z v n xs) (ho : W.heap[l]? = some o) (hc : o.isCells = false) : (W.putObj l o').ownsRow base e z v n xs := by
  refine ⟨h.1, ?_⟩
  rcases h.2 with h2 | ⟨g, cap, cur, rfl, hb', hg, r⟩
  · exact .inl h2
  · exact .inr ⟨g, cap, cur, rfl, hb', erow_put hg ho hc, r⟩
def encZE (x : Int) : Array Value := #[.int .i64 x]
/-- Between two rounds of AppendSeq over the numbers of a slice. -/
structure JE (w : World) (l : List Int) (pre : List Int) (W : World) : Prop where
  bel : Below w.heap.size w W
  is : pre = l.take pre.length
  le : pre.length ≤ l.length
  sz : w.heap.size + 3 ≤ W.heap.size
  own : ∃ v, Row W w.heap.size 47 #[v] ∧ W.ownsRow (w.heap.size + 3) 3 1 v pre.length (zcs pre)
theorem JE.put {w : World} {l pre : List Int} : Bides (w.heap.size + 1) (JE w l pre) := fun W k o o' hk ho hc ⟨h1, h2, h3, hz, v, h4, h5⟩ =>
  ⟨h1.trans ((Below.refl _ _).grown (grownBy_putObj' W k o') h1.size (fun j e => by cases e; omega)), h2, h3, by simpa using hz, v, erow_put h4 ho hc, eown_put h5 ho hc⟩
def GE (l pre : List Int) (x : Int) : Prop := pre.length < l.length ∧ x = l.getD pre.length 0
def tmE (w : World) (Bx : Nat) (x : Int) : Array Value :=
  #[.slice none 0 0, .func (.func 131) #[] #[.pointer (some ⟨Bx, 0, none⟩)], .pointer (some ⟨w.heap.size, 0, none⟩), undef, .slice none 0 0, .int .i64 x, .func (.func 131) #[] #[.pointer (some ⟨Bx, 0, none⟩)], .int .i64 x, undef, undef, undef, undef, undef]
def AE (w : World) (Bx : Nat) (l pre : List Int) (x : Int) (a' : Act) (W : World) : Prop := JE w l pre W ∧ GE l pre x ∧ a' = { tmps := tmE w Bx x, defers := [] }

set_option maxRecDepth 100000 in
set_option maxHeartbeats 2000000 in
theorem values1_in (F : Fence) (hF : F = Fence.wide) (n : Nat) (hn : 2 ≤ n) (w w1 : World) (Bx base : Nat) (l : List Int) (v : Value) (ho : w.ownsRow base 3 1 v l.length (zcs l)) (hl : l.length ≤ 1000000) (hx : Row w Bx 47 #[v]) (L : Nat) (Bk X : World → Prop)
    (hY : ∀ pre x W, JE w l pre W → GE l pre x → Bk W → YieldAt F (n - 1) Tryz.prog L (encZE x) W fun e W' => (e = .returned (.bool true) ∧ JE w l (pre ++ [x]) W' ∧ Bk W') ∨ (e = .returned (.bool false) ∧ X W'))
    (h1 : JE w l [] w1) (hk0 : Bk w1) :
    CallsIn F n Tryz.prog 131 #[.func (.yield L) #[] #[], .pointer (some ⟨Bx, 0, none⟩)] w1 fun e W' => (∃ v, e = .returned v) ∧ ((∃ (_ : Unit) (ys : List Int), ys = l ∧ JE w l ys W' ∧ Bk W') ∨ X W') := by
  have h2 : 1 ≤ n := by omega
  have h3 : 1 ≤ n - 1 := by omega
  have hro : F.round = none := by subst hF; rfl
  have hf : ∀ f, F.fn f := by subst hF; exact fun _ => trivial
  obtain ⟨a, c, rfl, _, _, hcell⟩ := own_zcs ho
  have HY' : Hid (∀ pre x W, JE w l pre W → GE l pre x → Bk W → YieldAt F (n - 1) Tryz.prog L (encZE x) W fun e W' => (e = .returned (.bool true) ∧ JE w l (pre ++ [x]) W' ∧ Bk W') ∨ (e = .returned (.bool false) ∧ X W')) := hY
  have HCE : Hid (∀ W k, Below w.heap.size w W → k < l.length → ∃ b, a = some ⟨b, 0, none⟩ ∧ W.cell? ⟨b, k, none⟩ = some (.int .i64 (l.getD k 0))) := show ∀ W k, _ → _ → _ from fun W k hW hk => by
    obtain ⟨b, rfl, _, hb, hc⟩ := hcell (by omega)
    exact ⟨b, rfl, (hW.cell hb).trans (hc k hk)⟩
  have HTA : Hid (∀ k, k ≤ l.length → (l.take k).length = k) := show ∀ k, _ → _ from fun k hk => by rw [List.length_take]; omega
  have HSN : Hid (∀ k, k < l.length → l.take k ++ [l.getD k 0] = l.take (k + 1)) := show ∀ k, _ → _ from fun k hk => (ztake_one hk).symm
  have HAL : Hid (l.take l.length = l) := show _ = _ from List.take_of_length_le (Nat.le_refl _)
  have hc0 : w1.cell? ⟨Bx, 0, none⟩ = some (.slice a l.length c) := (hx.kept (Fr.of_below (fp := []) h1.bel) (by simp)).cell rfl
  have HJ0 : Hid (JE w l (l.take 0) w1) := h1
  have HK0 : Hid (Bk w1) := hk0
  obtain ⟨N, hN⟩ : ∃ N, N = l.length := ⟨_, rfl⟩
  rw [← hN] at hc0 HCE HTA HSN HAL hl
  have HN : Hid (N = l.length) := hN
  clear hF hY ho hx hcell h1 hk0 hN
  refine callsIn_of_wp Tryz.func131 rfl (hf _) ?_ hro
  simp only [Tryz.ntmps131, List.size_toArray, List.length_cons, List.length_nil, Nat.reduceAdd, Nat.reduceSub, Array.replicate_succ, Array.replicate_zero, List.push_toArray, List.append_toArray, List.nil_append, List.cons_append]
  gi_wp2
  gi_loopw [7] (fun iv wr => ∃ k : Nat, k ≤ N ∧ iv = .int .i64 (k : Int) ∧ Hid (JE w l (l.take k) wr) ∧ Hid (Bk wr)) (fun iv _ => N - (RowKit.intOf iv).toNat)
  case atStart => exact ⟨0, by omega, rfl, HJ0.out, HK0.out⟩
  case round =>
    obtain ⟨k, hk, rfl, HJ, HK⟩ := hrel
    by_cases hlt : k < N
    case neg =>
      obtain rfl : k = N := by omega
      have F1 : Hid (JE w l l wr) := show JE _ _ _ _ from by have := HJ.out; rw [HAL.out] at this; exact this
      gi_wp2
      go_end0
      exact ⟨⟨_, rfl⟩, .inl ⟨(), l, rfl, F1.out, HK.out⟩⟩
    obtain ⟨b, rfl, hd⟩ := HCE.out wr k HJ.out.bel hlt
    obtain ⟨fn, tmps, assign, body, hy, hR⟩ := HY'.out (l.take k) (l.getD k 0) wr HJ.out ⟨by rw [HTA.out k hk, ← HN.out]; exact hlt, by rw [HTA.out k hk]⟩ HK.out
    unfold encZE at hy
    have HS := show Hid (_ = _) from HSN.out k hlt
    generalize l.getD k 0 = x at hd hy hR HS
    clear HJ HK
    gi_wp2
    refine hR.mono ?_
    rintro e W3 (⟨rfl, hj3, hk3⟩ | ⟨rfl, hX⟩)
    case inr =>
      have HX : Hid (X W3) := hX
      clear hX
      gi_wp2
      (try simp only [Exit.inBlock, Exit.then])
      refine bodyPost_ret (results_none rfl _ _ _) rfl ?_
      exact ⟨⟨_, rfl⟩, .inr HX.out⟩
    have HJ3 : Hid (JE w l (l.take (k + 1)) W3) := show JE _ _ _ _ by rw [← HS.out]; exact hj3
    have HK3 : Hid (Bk W3) := hk3
    clear hj3 hk3 hd hy hR HS
    gi_wp2
    go_roundw
    case rel => exact ⟨k + 1, by omega, by go_num, HJ3.out, HK3.out⟩
    case measure => simp [RowKit.intOf]; omega
end Go.Proofs.YtbmjcnmgignaoaaGreatDoor

/- What slices.AppendSeq and slices.Collect return of slices.Values, at numbers. -/
namespace Go.Proofs.YtbmjcnmgignaoaaGreatDoor
open Go.RowKit Vecm Opened Wirem Txt Frm Rgf
open Crcm (bys)
set_option linter.unusedVariables false
attribute [local go_sem] Oper.semAt_some

/-- One number more. -/
theorem JE.app {w : World} {l pre : List Int} {x : Int} {v v' : Value} {U W' : World} {o : Obj} (h : JE w l pre U) (hv : Row U w.heap.size 47 #[v]) (hov : U.ownsRow (w.heap.size + 3) 3 1 v pre.length (zcs pre)) (hg : GE l pre x)
    (ho : W'.ownsRow (w.heap.size + 3) 3 1 v' (pre.length + 1) (zcs pre ++ [.int .i64 x])) (hf : Fr (blk v) (U.alloc o) W') (hb : ∀ k ∈ blk v', k ∈ blk v ∨ (U.alloc o).heap.size ≤ k) :
    W'.cell? ⟨w.heap.size, 0, none⟩ = some v ∧ W'.frozen? ⟨w.heap.size, 0, none⟩ = false ∧ Hid (KeepsFrom (w.heap.size + 1) U (W'.setCell ⟨w.heap.size, 0, none⟩ v') ∧ JE w l (pre ++ [x]) (W'.setCell ⟨w.heap.size, 0, none⟩ v')) := by
  obtain ⟨h1, h2, h3, hz, _⟩ := h
  obtain ⟨g1, g2⟩ := hg
  have far : ∀ k ∈ blk v, w.heap.size + 3 ≤ k := own_base hov
  have hf' : Fr (blk v) U W' := ((Fr.refl _ U).alloc _).trans hf (fun k hk => .inl hk)
  have r0 : Row W' w.heap.size 47 #[v] := hv.kept hf' (fun hk => by have := far _ hk; omega)
  have hs : ∀ k, k ≠ w.heap.size → (W'.setCell ⟨w.heap.size, 0, none⟩ v').heap[k]? = W'.heap[k]? := fun k h0 => Below.heap_setCell _ _ _ k h0
  have fr2 : Fr [w.heap.size] W' (W'.setCell ⟨w.heap.size, 0, none⟩ v') := (Fr.refl _ W').setCell (.inl (by simp)) _
  refine ⟨r0.cell rfl, r0.frozen, ⟨Nat.le_trans hf'.size fr2.size, fun k o hk h0 hc => ?_⟩, ?_, ?_, ?_, ?_, v', Row.set r0 0 v', ?_⟩
  · have hlt := (Array.getElem?_eq_some_iff.1 h0).1
    rw [hs k (by omega), hf'.block k hlt (fun hm => ?_)]
    · exact h0
    · rcases hov.2 with ⟨rfl, _⟩ | ⟨g, cap, cur', rfl, _, hg', _⟩
      · cases hm
      · simp only [blk, List.mem_singleton] at hm
        subst hm
        rw [h0] at hg'
        cases hg'
        cases hc
  · exact (h1.trans (hf'.below (fun k hk => by have := far k hk; omega) h1.size)).trans (fr2.below (fun k hk => by simp at hk; omega) (by have := h1.size; have := hf'.size; omega))
  · rw [List.length_append, List.length_singleton, ztake_one g1, ← h2, ← g2]
  · rw [List.length_append, List.length_singleton]; omega
  · have := hf'.size; have := fr2.size; omega
  · rw [List.length_append]
    rw [zcs_snoc] at ho
    exact own_kept ho fr2 (fun k hk e => by have := own_base ho k hk; simp at e; omega)

set_option maxRecDepth 100000 in
set_option maxHeartbeats 4000000 in
theorem appseq_in (F : Fence) (hF : F = Fence.wide) (n : Nat) (hn : 6 ≤ n) (w : World) (Bx base : Nat) (l : List Int) (v : Value) (ho : w.ownsRow base 3 1 v l.length (zcs l)) (hl : l.length ≤ 1000000) (hx : Row w Bx 47 #[v]) :
    CallsIn F n Tryz.prog 146 #[.slice none 0 0, .func (.func 131) #[] #[.pointer (some ⟨Bx, 0, none⟩)]] w fun e w' => ∃ v', e = .returned v' ∧ w'.ownsRow w.heap.size 3 1 v' l.length (zcs l) ∧ Below w.heap.size w w' := by
  have h1 : 1 ≤ n := by omega
  have hro : F.round = none := by subst hF; rfl
  have hf : ∀ f, F.fn f := by subst hF; exact fun _ => trivial
  have HF : Hid (F = Fence.wide) := hF
  obtain ⟨i0, hi, hz0, hz1, hz2⟩ := vinfo (i := 3) (z := .int .i64 0) (a := 1) (b := 8) (by kernel_rfl)
  have HI : Hid (_) := hi
  have HZ0 : Hid (_) := hz0
  have HZ1 : Hid (_) := hz1
  have HZ2 : Hid (_) := hz2
  have HL : Hid (l.length ≤ 1000000) := hl
  clear hF hi hz0 hz1 hz2
  refine callsIn_of_wp_marks Tryz.func146 rfl (hf _) ?_ hro
  simp only [Tryz.ntmps146, List.size_toArray, List.length_cons, List.length_nil, Nat.reduceAdd, Nat.reduceSub, Array.replicate_succ, Array.replicate_zero, List.push_toArray, List.append_toArray, List.nil_append, List.cons_append]
  gi_wp2_with fail
  obtain ⟨V, hV⟩ : ∃ V, V = w.alloc (.cells #[.slice none 0 0] 47) := ⟨_, rfl⟩
  have hVz : V.heap.size = w.heap.size + 1 := by rw [hV]; simp
  have hB0 : Below w.heap.size w V := by rw [hV]; exact (Below.refl _ _).alloc (Nat.le_refl _) _
  have r0 : Row V w.heap.size 47 #[.slice none 0 0] := by rw [hV]; exact Row.new _ _ _
  rw [← hV]
  clear hV
  refine range_law hro h1 (β := Unit) (gf := 131) (lb := #[.pointer (some ⟨Bx, 0, none⟩)]) rfl (hf _) (enters_of Tryz.func131 (by kernel_rfl) rfl) (encs := encZE) (fun _ => rfl)
    (fun _ => JE w l) (fun _ pre x W => GE l pre x) (fun _ ys => ys = l) (fun _ _ => False) (fun _ => AE w Bx l)
    (by rw [hVz]; exact fun _ _ => JE.put) (fun _ _ _ _ _ _ _ _ h => h.elim) (by rw [hVz]; exact fun _ _ _ _ W k o o' hk ho hc ⟨q1, q2, q3⟩ => ⟨JE.put W k o o' hk ho hc q1, q2, q3⟩) ?hit ?assign ?body ?done ?stop
  case hit =>
    intro Bk X hbk hY o hoo hk0
    have hb2 : Below w.heap.size w ((V.alloc (.deferred (some []))).alloc o) := hB0.trans (((Below.refl _ V).alloc (by omega) _).alloc (by simp; omega) _)
    exact values1_in F HF.out (n - 1) (by omega) w _ Bx base l v ho hl hx _ Bk X (fun pre x W hj hg hb => hY () pre x W hj hg hb) ⟨hb2, by simp, Nat.zero_le _, by simp; omega, _, (r0.alloc _).alloc _, World.ownsRow_nil _ _ _ _⟩ hk0
  case assign =>
    rintro k _ pre x W K hj hg hK
    unfold encZE
    gi_wp2
    exact hK _ _ ⟨Nat.le_refl _, fun k o _ h _ => h⟩ ⟨hj, hg, rfl⟩
  case body =>
    rintro k _ pre x a' W ⟨hj, hg, rfl⟩
    have HJ : Hid (JE w l pre W) := hj
    obtain ⟨-, -, hle, hsz, v0, hv0, hov⟩ := hj
    obtain ⟨a0, c0, rfl, _⟩ := own_zcs hov
    have cc0 : W.cell? ⟨w.heap.size, 0, none⟩ = some (.slice a0 pre.length c0) := hv0.cell rfl
    have HG : Hid (GE l pre x) := hg
    have HR : Hid (Row W w.heap.size 47 #[.slice a0 pre.length c0]) := hv0
    have HO : Hid (W.ownsRow (w.heap.size + 3) 3 1 (.slice a0 pre.length c0) pre.length (zcs pre)) := hov
    have HLE : Hid (pre.length ≤ 1000000) := show _ ≤ _ by have := HL.out; omega
    have HS : Hid (w.heap.size + 3 ≤ W.heap.size) := hsz
    have HVZ : Hid (V.heap.size = w.heap.size + 1) := hVz
    unfold tmE
    clear hg hv0 hov hle hsz hVz hB0 r0 ho hx hl
    gi_wp2_with (gi_at_builtin; refine wpListIn_append_at _ rfl _ _ 47 rfl (w.heap.size + 3) 3 i0 (.int .i64 0) 1 8 Tryz.underlying47 HI.out HZ0.out HZ1.out HZ2.out rfl (by decide) _ _ _ rfl (World.ownsRow.alloc HO.out _) ⟨W.heap.size, 0, none⟩ 1 1 [.int .i64 x] rfl rfl (cell_one_new _ _ _) (by simp [Value.oneCell']) (by have := HLE.out; unfold maxLen; omega) (by have := HLE.out; omega) (by have := HS.out; simp; omega) ?_; intro v' w1 hown' hfr hfresh; obtain ⟨g', cap', rfl⟩ := ownsRow_succ hown'; obtain ⟨z0, z1, HAP⟩ := HJ.out.app HR.out HO.out HG.out hown' hfr hfresh; clear hown' hfr hfresh)
    exact ⟨by rw [HVZ.out]; exact HAP.out.1, HAP.out.2⟩
  case done =>
    rintro D _ ys W hD rfl hj hK
    have HJ : Hid (JE w ys ys W) := hj
    obtain ⟨-, -, hle, hsz, v0, hv0, hov⟩ := hj
    obtain ⟨a0, c0, rfl, _⟩ := own_zcs hov
    have HK : Hid (_) := hK
    have HD : Hid (w.heap.size + 1 ≤ D) := show _ ≤ _ by omega
    have cc0 : W.cell? ⟨w.heap.size, 0, none⟩ = some (.slice a0 ys.length c0) := hv0.cell rfl
    have HO : Hid (W.ownsRow (w.heap.size + 3) 3 1 (.slice a0 ys.length c0) ys.length (zcs ys)) := hov
    have HBW : Hid (Below w.heap.size w W) := HJ.out.bel
    clear hK hD hle hsz hv0 hov HJ ho hx hl hVz hB0 r0
    gi_wp2
    have hK2 : W.heap[D]? = some (.deferred (some [])) := HK.out
    refine ⟨by simp, .inl ⟨_, _, rfl, run_takeDeferred hK2, ?_⟩⟩
    exact ⟨_, results_tmp rfl _ _ _, _, rfl, Go.Joins.ownsRow_le (eown_put HO.out hK2 rfl) (by omega), HBW.out.trans ((Below.refl _ _).grown (grownBy_putObj' W D _) HBW.out.size (fun j e => by cases e; have := HD.out; omega))⟩
  case stop =>
    rintro D c W hD h hK
    exact h.elim
end Go.Proofs.YtbmjcnmgignaoaaGreatDoor

/- Of numbers, the greatest one that stands k times at least. -/
namespace Volm
set_option linter.unusedVariables false

theorem ep_front {x : Int} : ∀ (r : List Int) (j : Nat), (∀ y ∈ r, x ≤ y) → r.Pairwise (· ≤ ·) → j ≤ r.count x → ∀ i, i < j → r.getD i 0 = x
  | [], j, _, _, h, i, hi => by simp at h; omega
  | a :: t, j, h1, h2, h3, i, hi => by
    have h4 := (List.pairwise_cons.1 h2)
    by_cases e : a = x
    · subst e
      cases i with
      | zero => rfl
      | succ i =>
        rw [List.getD_cons_succ]
        rw [List.count_cons_self] at h3
        exact ep_front t (j - 1) (fun y hy => h1 y (List.mem_cons_of_mem _ hy)) h4.2 (by omega) i (by omega)
    · exfalso
      have h5 := h1 a (List.mem_cons_self ..)
      have h6 : (a :: t).count x = 0 := by
        rw [List.count_eq_zero]
        intro hm
        rcases List.mem_cons.1 hm with hm | hm
        · exact e hm.symm
        · have := h4.1 x hm; omega
      omega
theorem ep_run {x : Int} {k : Nat} (hk : 1 ≤ k) : ∀ (r : List Int), r.Pairwise (· ≤ ·) → k ≤ r.count x → ∃ i, i + k ≤ r.length ∧ r.getD i 0 = x ∧ r.getD (i + k - 1) 0 = x
  | [], _, h => by simp at h; omega
  | a :: t, h1, h2 => by
    have h4 := (List.pairwise_cons.1 h1)
    by_cases e : a < x
    · rw [List.count_cons_of_ne (by omega)] at h2
      obtain ⟨i, h5, h6, h7⟩ := ep_run hk t h4.2 h2
      refine ⟨i + 1, by rw [List.length_cons]; omega, by rw [List.getD_cons_succ]; exact h6, ?_⟩
      rw [show i + 1 + k - 1 = (i + k - 1) + 1 by omega, List.getD_cons_succ]; exact h7
    · have hf := ep_front (a :: t) k (fun y hy => by
        rcases List.mem_cons.1 hy with rfl | hy
        · omega
        · have := h4.1 y hy; omega) h1 h2
      have := List.count_le_length (a := x) (l := a :: t)
      exact ⟨0, by omega, hf 0 (by omega), by rw [Nat.zero_add]; exact hf (k - 1) (by omega)⟩
theorem ep_sorted {r : List Int} (h : r.Pairwise (· ≤ ·)) {i j : Nat} (hij : i ≤ j) (hj : j < r.length) : r.getD i 0 ≤ r.getD j 0 := by
  rcases Nat.lt_or_ge i j with h1 | h1
  · have := List.pairwise_iff_getElem.1 h i j (by omega) hj h1
    simp only [List.getD_eq_getElem?_getD, List.getElem?_eq_getElem hj, List.getElem?_eq_getElem (show i < r.length by omega), Option.getD_some]
    exact this
  · rw [show i = j by omega]; exact Int.le_refl _
theorem ep_count {x : Int} {k i : Nat} {r : List Int} (hk : 1 ≤ k) (h : r.Pairwise (· ≤ ·)) (hi : i + k ≤ r.length) (h1 : r.getD i 0 = x) (h2 : r.getD (i + k - 1) 0 = x) : k ≤ r.count x := by
  have hall : (r.drop i).take k = List.replicate k x := by
    rw [List.eq_replicate_iff]
    refine ⟨by simp; omega, fun b hb => ?_⟩
    obtain ⟨j, hj, rfl⟩ := List.getElem_of_mem hb
    rw [List.length_take, List.length_drop] at hj
    rw [List.getElem_take, List.getElem_drop]
    have h3 := ep_sorted h (i := i) (j := i + j) (by omega) (by omega)
    have h4 := ep_sorted h (i := i + j) (j := i + k - 1) (by omega) (by omega)
    rw [h1] at h3; rw [h2] at h4
    rw [List.getD_eq_getElem?_getD, List.getElem?_eq_getElem (by omega), Option.getD_some] at h3 h4
    omega
  have hs : List.Sublist ((r.drop i).take k) r := (List.take_sublist _ _).trans (List.drop_sublist _ _)
  have := hs.count_le x
  rw [hall, List.count_replicate_self] at this
  exact this
theorem epK_top {r : List Int} {k : Nat} {e : Int} (hk : 1 ≤ k) (h : r.Pairwise (· ≤ ·)) : ∀ (m : Nat), m + k ≤ r.length + 1 → (∃ i, i < m ∧ r.getD i 0 = e ∧ r.getD (i + k - 1) 0 = e) → (∀ i, i < m → r.getD i 0 = r.getD (i + k - 1) 0 → r.getD i 0 ≤ e) → epK r k m = e
  | 0, _, ⟨i, hi, _⟩, _ => by omega
  | m + 1, hm, ⟨i, hi, h1, h2⟩, h3 => by
    rw [epK]
    split
    · rename_i he
      have h4 := h3 m (by omega) he
      have h5 := ep_sorted h (i := i) (j := m) (by omega) (by omega)
      omega
    · rename_i he
      refine epK_top hk h m (by omega) ⟨i, ?_, h1, h2⟩ (fun j hj => h3 j (by omega))
      rcases Nat.lt_or_ge i m with h4 | h4
      · exact h4
      · exfalso
        have : i = m := by omega
        subst this
        exact he (h1.trans h2.symm)
theorem srt_pairwise (es : List Int) : (es.mergeSort fun x y => decide (x ≤ y)).Pairwise (· ≤ ·) := by
  have := List.pairwise_mergeSort (le := fun x y : Int => decide (x ≤ y)) (fun a b c h1 h2 => by simp at *; omega) (fun a b => by simp; omega) es
  rw [List.pairwise_iff_getElem] at this ⊢
  intro i j hi hj hij
  have := this i j hi hj hij
  simpa using this
theorem srt_count (es : List Int) (x : Int) : (es.mergeSort fun x y => decide (x ≤ y)).count x = es.count x := (List.mergeSort_perm es _).count_eq x
/-- The greatest number that stands k times. -/
theorem epO_top {es : List Int} {k : Nat} {e : Int} (hk : 1 ≤ k) (h1 : k ≤ es.count e) (h2 : ∀ x, e < x → es.count x < k) : epO es k = e := by
  have hl : (es.mergeSort fun x y => decide (x ≤ y)).length = es.length := List.length_mergeSort es
  have hp := srt_pairwise es
  rw [epO]
  obtain ⟨i, h3, h4, h5⟩ := ep_run hk _ hp (by rw [srt_count]; exact h1)
  have := List.count_le_length (a := e) (l := es)
  refine epK_top hk hp _ (by omega) ⟨i, by omega, h4, h5⟩ (fun j hj he => ?_)
  have h6 := ep_count hk hp (i := j) (by omega) rfl he.symm
  rw [srt_count] at h6
  by_cases hlt : e < (es.mergeSort fun x y => decide (x ≤ y)).getD j 0
  · have := h2 _ hlt; omega
  · omega
end Volm

/- The library's Keys, Sorted and Sort at this program's numbers. -/
namespace Go.Proofs.YtbmjcnmgignaoaaGreatDoor
open Go.Shelf
def keysA_ren : Go.Shelf.Ren := ⟨fun | 7 => 69 | 10 => 113 | n => n, fun | 23 => 107 | 26 => 3 | 3 => 75 | 28 => 111 | 0 => 0 | 27 => 110 | 33 => 46 | 4 => 4 | n => n, fun | n => n⟩
theorem keysA : Go.Proofs.SlLaysZI.n7 Tryz.prog keysA_ren := {
  mixed := by kernel_rfl
  f7 := ⟨Tryz.f69.name, by decide, Tryz.func69.trans (congrArg some (by kernel_rfl))⟩
  f10 := ⟨Tryz.f113.name, by decide, Tryz.func113.trans (congrArg some (by kernel_rfl))⟩
  t0 := Tryz.underlying0
  a0 := Tryz.isAgg0
  z0 := Tryz.sizeOf0
  v0 := Tryz.zeroValue0
  t4 := Tryz.underlying4
  a4 := Tryz.isAgg4
  z4 := Tryz.sizeOf4
  v4 := Tryz.zeroValue4
  t23 := Tryz.underlying107
  a23 := Tryz.isAgg107
  z23 := Tryz.sizeOf107
  v23 := Tryz.zeroValue107
  t26 := Tryz.underlying3
  a26 := Tryz.isAgg3
  z26 := Tryz.sizeOf3
  v26 := Tryz.zeroValue3
  t27 := Tryz.underlying110
  a27 := Tryz.isAgg110
  z27 := Tryz.sizeOf110
  v27 := Tryz.zeroValue110
  t28 := Tryz.underlying111
  a28 := Tryz.isAgg111
  z28 := Tryz.sizeOf111
  v28 := Tryz.zeroValue111
  t33 := Tryz.underlying46
  a33 := Tryz.isAgg46
  z33 := Tryz.sizeOf46
  v33 := Tryz.zeroValue46 }
def sortedA_ren : Go.Shelf.Ren := ⟨fun | 6 => 68 | 8 => 111 | 9 => 112 | 11 => 146 | 13 => 148 | 12 => 147 | 23 => 188 | 24 => 189 | 14 => 179 | 15 => 180 | 16 => 181 | 17 => 182 | 18 => 183 | 19 => 184 | 20 => 185 | 21 => 186 | 22 => 187 | 25 => 210 | 26 => 211 | 27 => 212 | 28 => 213 | 29 => 214 | 30 => 110 | 31 => 225 | n => n, fun | 26 => 3 | 28 => 111 | 24 => 47 | 0 => 0 | 3 => 3 | 37 => 143 | 48 => 190 | 50 => 193 | 4 => 4 | 40 => 224 | 39 => 223 | 45 => 228 | 5 => 5 | 9 => 9 | 51 => 245 | 55 => 249 | 57 => 260 | 58 => 261 | 33 => 46 | n => n, fun | n => n⟩
theorem sortedA : Go.Proofs.SlLaysZI.n6 Tryz.prog sortedA_ren := {
  mixed := by kernel_rfl
  f6 := ⟨Tryz.f68.name, by decide, Tryz.func68.trans (congrArg some (by kernel_rfl))⟩
  f8 := ⟨Tryz.f111.name, by decide, Tryz.func111.trans (congrArg some (by kernel_rfl))⟩
  f11 := ⟨Tryz.f146.name, by decide, Tryz.func146.trans (congrArg some (by kernel_rfl))⟩
  t0 := Tryz.underlying0
  a0 := Tryz.isAgg0
  z0 := Tryz.sizeOf0
  v0 := Tryz.zeroValue0
  t24 := Tryz.underlying47
  a24 := Tryz.isAgg47
  z24 := Tryz.sizeOf47
  v24 := Tryz.zeroValue47
  t26 := Tryz.underlying3
  a26 := Tryz.isAgg3
  z26 := Tryz.sizeOf3
  v26 := Tryz.zeroValue3
  t28 := Tryz.underlying111
  a28 := Tryz.isAgg111
  z28 := Tryz.sizeOf111
  v28 := Tryz.zeroValue111
  i26 := by kernel_rfl }
def sortA_ren : Go.Shelf.Ren := ⟨fun | 5 => 112 | 8 => 148 | 7 => 147 | 19 => 188 | 20 => 189 | 10 => 179 | 11 => 180 | 12 => 181 | 13 => 182 | 14 => 183 | 15 => 184 | 16 => 185 | 17 => 186 | 18 => 187 | 30 => 210 | 31 => 211 | 32 => 212 | 33 => 213 | 34 => 214 | 35 => 110 | 40 => 225 | n => n, fun | 23 => 47 | 25 => 3 | 3 => 3 | 32 => 143 | 22 => 47 | 0 => 0 | 44 => 190 | 46 => 193 | 4 => 4 | 36 => 224 | 35 => 223 | 41 => 228 | 5 => 5 | 9 => 9 | 53 => 245 | 57 => 249 | 63 => 260 | 64 => 261 | n => n, fun | n => n⟩
theorem sortA : Go.Proofs.SlLaysM.n5 Tryz.prog sortA_ren := {
  mixed := by kernel_rfl
  f5 := ⟨Tryz.f112.name, by decide, Tryz.func112.trans (congrArg some (by kernel_rfl))⟩
  f7 := ⟨Tryz.f147.name, by decide, Tryz.func147.trans (congrArg some (by kernel_rfl))⟩
  f8 := Tryz.func148.trans (congrArg some (by kernel_rfl))
  f10 := ⟨Tryz.f179.name, by decide, Tryz.func179.trans (congrArg some (by kernel_rfl))⟩
  f11 := ⟨Tryz.f180.name, by decide, Tryz.func180.trans (congrArg some (by kernel_rfl))⟩
  f12 := ⟨Tryz.f181.name, by decide, Tryz.func181.trans (congrArg some (by kernel_rfl))⟩
  f13 := ⟨Tryz.f182.name, by decide, Tryz.func182.trans (congrArg some (by kernel_rfl))⟩
  f14 := ⟨Tryz.f183.name, by decide, Tryz.func183.trans (congrArg some (by kernel_rfl))⟩
  f15 := ⟨Tryz.f184.name, by decide, Tryz.func184.trans (congrArg some (by kernel_rfl))⟩
  f16 := ⟨Tryz.f185.name, by decide, Tryz.func185.trans (congrArg some (by kernel_rfl))⟩
  f17 := ⟨Tryz.f186.name, by decide, Tryz.func186.trans (congrArg some (by kernel_rfl))⟩
  f18 := ⟨Tryz.f187.name, by decide, Tryz.func187.trans (congrArg some (by kernel_rfl))⟩
  f19 := Tryz.func188.trans (congrArg some (by kernel_rfl))
  f20 := Tryz.func189.trans (congrArg some (by kernel_rfl))
  f30 := ⟨Tryz.f210.name, by decide, Tryz.func210.trans (congrArg some (by kernel_rfl))⟩
  f31 := Tryz.func211.trans (congrArg some (by kernel_rfl))
  f32 := Tryz.func212.trans (congrArg some (by kernel_rfl))
  f33 := ⟨Tryz.f213.name, by decide, Tryz.func213.trans (congrArg some (by kernel_rfl))⟩
  f34 := ⟨Tryz.f214.name, by decide, Tryz.func214.trans (congrArg some (by kernel_rfl))⟩
  f35 := ⟨Tryz.f110.name, by decide, Tryz.func110.trans (congrArg some (by kernel_rfl))⟩
  f40 := ⟨Tryz.f225.name, by decide, Tryz.func225.trans (congrArg some (by kernel_rfl))⟩
  t0 := Tryz.underlying0
  a0 := Tryz.isAgg0
  z0 := Tryz.sizeOf0
  v0 := Tryz.zeroValue0
  t3 := Tryz.underlying3
  a3 := Tryz.isAgg3
  z3 := Tryz.sizeOf3
  v3 := Tryz.zeroValue3
  t4 := Tryz.underlying4
  a4 := Tryz.isAgg4
  z4 := Tryz.sizeOf4
  v4 := Tryz.zeroValue4
  t5 := Tryz.underlying5
  a5 := Tryz.isAgg5
  z5 := Tryz.sizeOf5
  v5 := Tryz.zeroValue5
  t9 := Tryz.underlying9
  a9 := Tryz.isAgg9
  z9 := Tryz.sizeOf9
  v9 := Tryz.zeroValue9
  t22 := Tryz.underlying47
  a22 := Tryz.isAgg47
  z22 := Tryz.sizeOf47
  v22 := Tryz.zeroValue47
  t23 := Tryz.underlying47
  a23 := Tryz.isAgg47
  z23 := Tryz.sizeOf47
  v23 := Tryz.zeroValue47
  t25 := Tryz.underlying3
  a25 := Tryz.isAgg3
  z25 := Tryz.sizeOf3
  v25 := Tryz.zeroValue3
  t32 := Tryz.underlying143
  a32 := Tryz.isAgg143
  z32 := Tryz.sizeOf143
  v32 := Tryz.zeroValue143
  t35 := Tryz.underlying223
  a35 := Tryz.isAgg223
  z35 := Tryz.sizeOf223
  v35 := Tryz.zeroValue223
  t36 := Tryz.underlying224
  a36 := Tryz.isAgg224
  z36 := Tryz.sizeOf224
  v36 := Tryz.zeroValue224
  t41 := Tryz.underlying228
  a41 := Tryz.isAgg228
  z41 := Tryz.sizeOf228
  v41 := Tryz.zeroValue228
  t44 := Tryz.underlying190
  a44 := Tryz.isAgg190
  z44 := Tryz.sizeOf190
  v44 := Tryz.zeroValue190
  t46 := Tryz.underlying193
  a46 := Tryz.isAgg193
  z46 := Tryz.sizeOf193
  v46 := Tryz.zeroValue193
  t53 := Tryz.underlying245
  a53 := Tryz.isAgg245
  z53 := Tryz.sizeOf245
  v53 := Tryz.zeroValue245
  t57 := Tryz.underlying249
  a57 := Tryz.isAgg249
  z57 := Tryz.sizeOf249
  v57 := Tryz.zeroValue249
  t63 := Tryz.underlying260
  a63 := Tryz.isAgg260
  z63 := Tryz.sizeOf260
  v63 := Tryz.zeroValue260
  t64 := Tryz.underlying261
  a64 := Tryz.isAgg261
  z64 := Tryz.sizeOf261
  v64 := Tryz.zeroValue261 }
end Go.Proofs.YtbmjcnmgignaoaaGreatDoor

/- What epochOf returns: the greatest number that stands k times. -/
namespace Go.Proofs.YtbmjcnmgignaoaaGreatDoor
open Go.RowKit Go.Maps Go.Sort Go.Shelf Vecm Opened Wirem Txt Frm Rgf Volm
open Crcm (bys)
set_option linter.unusedVariables false
attribute [local go_sem] Oper.semAt_some

def SrP (w : World) (l : List Int) (e : Ending) (w' : World) : Prop := ∃ v, e = .returned v ∧ w'.ownsRow w.heap.size 3 1 v l.length (zcs l) ∧ Below w.heap.size w w'

set_option maxRecDepth 100000 in
set_option maxHeartbeats 1000000 in
theorem collect_any (w : World) (Bx base : Nat) (l : List Int) (v : Value) (ho : w.ownsRow base 3 1 v l.length (zcs l)) (hl : l.length ≤ 1000000) (hx : Row w Bx 47 #[v]) :
    Calls Tryz.prog 111 #[.func (.func 131) #[] #[.pointer (some ⟨Bx, 0, none⟩)]] w (SrP w l) := by
  have C1 : Hid (Calls Tryz.prog 146 #[.slice none 0 0, .func (.func 131) #[] #[.pointer (some ⟨Bx, 0, none⟩)]] w (SrP w l)) := show Calls _ _ _ _ _ from (callsIn_wide (n := 6)).1 (appseq_in Fence.wide rfl 6 (by omega) w Bx base l v ho hl hx)
  clear ho hx
  go_enter Tryz.func111, Tryz.ntmps111
  go_wp2_with fail
  refine Calls.mono C1.out ?_
  rintro e w1 ⟨v', rfl, h1, h2⟩
  have H1 : Hid (w1.ownsRow w.heap.size 3 1 v' l.length (zcs l)) := h1
  have H2 : Hid (Below w.heap.size w w1) := h2
  clear h1 h2 C1
  go_wp2
  go_ret
  exact ⟨v', rfl, H1.out, H2.out⟩

theorem esort_any {w : World} {base : Nat} {l : List Int} {v : Value} (ho : w.ownsRow base 3 1 v l.length (zcs l)) (hl : l.length ≤ 1000000) :
    Calls Tryz.prog 112 #[v] w fun e w' => e = .returned (.tuple #[]) ∧ w'.ownsRow base 3 1 v l.length (zcs (l.mergeSort fun x y => decide (x ≤ y))) ∧ (Below w.heap.size w w' ∨ base ≤ w.heap.size ∧ Below base w w') := by
  rcases ho.2 with ⟨rfl, hz⟩ | ⟨gb, cap, cur, rfl, hbase, hgb, r1, r2, r3, r4⟩
  · have hss : l = [] := List.eq_nil_of_length_eq_zero hz
    subst hss
    refine (AnyM.slices_Sort_int_none sortA none 0 w).mono ?_
    rintro e w' ⟨rfl, rfl⟩
    exact ⟨rfl, by simpa using ho, .inl (Below.refl _ _)⟩
  · have hH : Holds encZ w gb 0 l.toArray := holds_of_block_i hgb (by simpa [zcs, encZ] using r4)
    have hgl : gb < w.heap.size := (Array.getElem?_eq_some_iff.1 hgb).1
    have hsz : l.length < 4611686018427387904 := by omega
    refine (AnyM.slices_Sort_int sortA gb 0 cap l w hH hgl hsz).mono ?_
    rintro e w' ⟨rfl, nn, os, rfl⟩
    refine ⟨rfl, ?_, .inr ⟨by omega, ?_⟩⟩
    · exact ownsRow_sorted_i (by simp) hbase hgb r1 r2 r3
    · exact (Below.refl base w).grown (grownBy_sorted_i _) (by omega) (fun j hj => by cases hj; exact hbase)
end Go.Proofs.YtbmjcnmgignaoaaGreatDoor

/- What epochOf returns: the greatest number that stands k times. -/
namespace Go.Proofs.YtbmjcnmgignaoaaGreatDoor
open Go.RowKit Vecm Opened Wirem Txt Frm Volm
open Crcm (bys)
set_option linter.unusedVariables false

def srt (l : List Int) : List Int := l.mergeSort fun x y => decide (x ≤ y)
theorem srt_length (l : List Int) : (srt l).length = l.length := List.length_mergeSort l

set_option maxRecDepth 100000 in
set_option maxHeartbeats 1000000 in
theorem esorted_any (w : World) (Bx base : Nat) (l : List Int) (v : Value) (ho : w.ownsRow base 3 1 v l.length (zcs l)) (hl : l.length ≤ 1000000) (hx : Row w Bx 47 #[v]) :
    Calls Tryz.prog 68 #[.func (.func 131) #[] #[.pointer (some ⟨Bx, 0, none⟩)]] w (SrP w (srt l)) := by
  have C1 : Hid (_) := collect_any w Bx base l v ho hl hx
  have C2 : Hid (∀ W v, W.ownsRow w.heap.size 3 1 v l.length (zcs l) → Below w.heap.size w W → Calls Tryz.prog 112 #[v] W fun e w' => e = .returned (.tuple #[]) ∧ SrP w (srt l) (.returned v) w') := show ∀ W v, _ → _ → _ from fun W v h hb => by
    refine (esort_any h hl).mono ?_
    rintro e w' ⟨rfl, h1, h2⟩
    refine ⟨rfl, v, rfl, by rw [srt_length]; exact h1, ?_⟩
    rcases h2 with h2 | ⟨_, h2⟩
    · exact hb.trans (h2.mono hb.size)
    · exact hb.trans h2
  unfold SrP at C1
  clear ho hx
  go_enter Tryz.func68, Tryz.ntmps68
  go_wp2_with fail
  refine Calls.mono C1.out ?_
  rintro e w1 ⟨v', rfl, h1, h2⟩
  have C3 : Hid (_) := C2.out w1 v' h1 h2
  clear h1 h2 C1 C2
  go_wp2_with fail
  refine Calls.mono C3.out ?_
  rintro e w2 ⟨rfl, h3⟩
  have H3 : Hid (SrP w (srt l) (.returned v') w2) := h3
  clear h3 C3
  go_wp2
  go_ret
  exact H3.out

set_option maxRecDepth 100000 in
set_option maxHeartbeats 2000000 in
theorem epochof_any {w : World} {base : Nat} {l : List Int} {v : Value} (ho : w.ownsRow base 3 1 v l.length (zcs l)) (hl : l.length ≤ 1000) (K : Nat) (hK : 1 ≤ K) (hK2 : K ≤ 1000) :
    Calls Tryz.prog 44 #[v, .int .i64 (K : Int)] w fun e w' => e = .returned (.int .i64 (epO l K)) ∧ Below w.heap.size w w' := by
  obtain ⟨a, c, rfl, -⟩ := own_zcs ho
  have CV : Hid (_) := values_any a l.length c w
  have CS : Hid (∀ W, Below w.heap.size w W → ∀ Bx, Row W Bx 47 #[.slice a l.length c] → Calls Tryz.prog 68 #[.func (.func 131) #[] #[.pointer (some ⟨Bx, 0, none⟩)]] W (SrP W (srt l))) := show ∀ W, _ → ∀ Bx, _ → _ from fun W hW Bx hx => esorted_any W Bx base l _ (own_kept ho (Fr.of_below (fp := []) hW) (by simp)) (by omega) hx
  have HB0 : Hid (Below w.heap.size w (w.alloc (.cells #[.slice a l.length c] 47))) := (Below.refl _ _).alloc (Nat.le_refl _) _
  have C2 : Hid (_) := CS.out _ HB0.out w.heap.size (Row.new _ _ _)
  have HEP : Hid (epO l K = epK (srt l) K (l.length + 1 - K)) := rfl
  have HSL : Hid ((srt l).length = l.length) := srt_length l
  unfold SrP at C2
  rw [HSL.out] at C2
  obtain ⟨N, hN⟩ : ∃ N, N = l.length := ⟨_, rfl⟩
  rw [← hN] at C2 CV HEP HSL hl HB0 ⊢
  have HST : Hid (∀ m, epK (srt l) K (m + 1) = if (srt l).getD m 0 = (srt l).getD (m + K - 1) 0 then (srt l).getD m 0 else epK (srt l) K m) := show ∀ m, _ from fun m => rfl
  have HZ : Hid (epK (srt l) K 0 = -1) := rfl
  generalize srt l = r at C2 HEP HSL HST HZ
  generalize epO l K = X at HEP ⊢
  clear ho CS hN
  go_enter Tryz.func44, Tryz.ntmps44
  go_wp2_with fail
  refine Calls.mono CV.out ?_
  rintro e w0 ⟨rfl, rfl⟩
  clear CV
  go_wp2_with fail
  refine Calls.mono C2.out ?_
  rintro e w1 ⟨v', rfl, h1, h2⟩
  have B1 : Hid (Below w.heap.size w w1) := show Below _ _ _ from below_step HB0.out h2
  obtain ⟨a', c', hv', _, _, hcell⟩ := own_zcs (l := r) (by rw [HSL.out]; exact h1)
  rw [HSL.out] at hv' hcell
  subst hv'
  have HCE : Hid (∀ W, Below w1.heap.size w1 W → ∀ i, i < N → ∃ b, a' = some ⟨b, 0, none⟩ ∧ W.cell? ⟨b, i, none⟩ = some (.int .i64 (r.getD i 0))) := show ∀ W, _ → ∀ i, _ → _ from fun W hW i hi => by
    obtain ⟨b, rfl, _, hb, hc⟩ := hcell (by omega)
    exact ⟨b, rfl, (hW.cell hb).trans (hc i hi)⟩
  clear h1 h2 hcell C2 HB0
  by_cases hNK : N < K
  · have HF : Hid (X = -1) := show _ = _ by rw [HEP.out, show N + 1 - K = 0 by omega, HZ.out]
    have hneg : ¬ (0 : Int) ≤ (N : Int) - (K : Int) := by omega
    clear HEP HST HZ HCE hNK
    go_wp2
    go_loopw [6] (fun i wr => i = .int .i64 ((N : Int) - (K : Int)) ∧ w1 = wr) (fun _ _ => 0)
    case atStart => exact ⟨rfl, rfl⟩
    case round =>
      obtain ⟨rfl, rfl⟩ := hrel
      go_wp2
      go_ret
      exact ⟨by rw [HF.out]; rfl, B1.out⟩
  go_wp2
  go_loopw [6] (fun i wr => ∃ m : Nat, m + K ≤ N + 1 ∧ i = .int .i64 ((m : Int) - 1) ∧ X = epK r K m ∧ Below w1.heap.size w1 wr) (fun i _ => (RowKit.intOf i + 1).toNat)
  case atStart => exact ⟨N + 1 - K, by omega, by congr 1; omega, HEP.out, Below.refl _ _⟩
  case round =>
    obtain ⟨m, hm, rfl, hx, hbel⟩ := hrel
    have HB : Hid (Below w1.heap.size w1 wr) := hbel
    rcases m with _ | i
    · have HF : Hid (X = -1) := show _ = _ by rw [hx, HZ.out]
      clear hx hbel
      go_wp2
      go_ret
      exact ⟨by rw [HF.out]; rfl, below_step B1.out HB.out⟩
    have e0 : (((i + 1 : Nat) : Int) - 1) = (i : Int) := by omega
    rw [e0]
    obtain ⟨b, rfl, hd0⟩ := HCE.out wr hbel i (by omega)
    obtain ⟨b', hb', hd1⟩ := HCE.out wr hbel (i + K - 1) (by omega)
    injection hb' with hb'
    injection hb' with hb'
    subst hb'
    have HX : Hid (X = if r.getD i 0 = r.getD (i + K - 1) 0 then r.getD i 0 else epK r K i) := show _ = _ by rw [hx, HST.out]
    generalize r.getD i 0 = p at hd0 HX
    generalize r.getD (i + K - 1) 0 = q at hd1 HX
    obtain ⟨j, hj⟩ : ∃ j, j = i + K - 1 := ⟨_, rfl⟩
    rw [← hj] at hd1
    have hw1 : IntKind.i64.wrap ((i : Int) + (K : Int)) = (i : Int) + (K : Int) := by rw [IntKind.wrap_i64]; omega
    have hw2 : IntKind.i64.wrap ((i : Int) + (K : Int) - 1) = (j : Int) := by rw [IntKind.wrap_i64]; omega
    have hin : i < N := by omega
    have hjn : j < N := by omega
    clear hx hbel hj HCE
    by_cases hpq : p = q
    · have HF : Hid (X = p) := show _ = _ by rw [HX.out, if_pos hpq]
      subst hpq
      clear HX
      go_wp2
      go_quiet (fail)
      go_wp2
      go_ret
      exact ⟨by rw [HF.out]; rfl, below_step B1.out (below_drewN HB.out _)⟩
    have HF : Hid (X = epK r K i) := show _ = _ by rw [HX.out, if_neg hpq]
    have hne : (p == q) = false := by rw [beq_eq_false_iff_ne]; exact hpq
    clear HX hpq
    go_wp2
    go_quiet (fail)
    go_wp2
    go_roundw
    case rel => exact ⟨i, by omega, rfl, HF.out, below_drewN HB.out _⟩
    case measure => simp [RowKit.intOf]
end Go.Proofs.YtbmjcnmgignaoaaGreatDoor

/- What find returns: a stripe's shards, its epoch, who has one of it. -/
namespace Go.Proofs.YtbmjcnmgignaoaaGreatDoor
open Go.RowKit Vecm Opened Wirem Txt Frm Diskm Arym Volm
open Cfm (Cf)
open Crcm (bys)
set_option linter.unusedVariables false

def hbs (l : List Bool) : List Value := l.map Value.bool
def hvk (es : List Int) (e : Int) (k : Nat) : List Bool := (List.range es.length).map fun i => decide (i < k) && (es.getD i 0 == e)
def hvE (es : List Int) (e : Int) : List Bool := es.map fun x => x == e
theorem hvk_set {es : List Int} {e : Int} {k : Nat} (h : k < es.length) : (hbs (hvk es e k)).set k (.bool (es.getD k 0 == e)) = hbs (hvk es e (k + 1)) := by
  refine List.ext_getElem (by simp [hbs, hvk]) fun i h1 h2 => ?_
  simp only [hbs, hvk, List.map_map, List.length_set, List.length_map, List.length_range] at h1
  rw [List.getElem_set]
  by_cases e1 : k = i
  · subst e1
    simp [hbs, hvk]
  · rw [if_neg e1]
    simp only [hbs, hvk, List.getElem_map, List.getElem_range]
    have : decide (i < k) = decide (i < k + 1) := by by_cases h3 : i < k <;> simp [h3] <;> omega
    rw [this]
theorem hvk_zero (es : List Int) (e : Int) : hvk es e 0 = List.replicate es.length false := by
  refine List.ext_getElem (by simp [hvk]) fun i h1 h2 => by simp [hvk]
theorem hvk_all (es : List Int) (e : Int) : hvk es e es.length = hvE es e := by
  refine List.ext_getElem (by simp [hvk, hvE]) fun i h1 h2 => ?_
  have : i < es.length := by simpa [hvk] using h1
  simp [hvk, hvE, this]
set_option maxRecDepth 100000 in
theorem vinfo_bool : (Tryz.prog.info? 4).map (fun i => (i.zero, i.size, i.bytes)) = some (some (.bool false), 1, 1) := by kernel_rfl
theorem vmade_bools (n : Nat) : (madeCells #[.bool false] n).toList = List.replicate n (.bool false) := by
  refine List.ext_getElem (by simp [madeCells]) fun i h1 h2 => ?_
  have : i % 1 = 0 := by omega
  simp [madeCells, this]

def cwz : Array Value := #[.int .i64 0, .slice none 0 0, .slice none 0 0]
theorem cw_one (e : Int) (a b : Option Addr) (n m c d : Nat) : (#[Value.int .i64 e, .slice a n c, .slice b m d] : Array Value).all (·.oneCell') = true := by
  rw [Array.all_eq_true_iff_forall_mem]
  intro v hv
  simp only [List.mem_toArray, List.mem_cons, List.not_mem_nil, or_false] at hv
  rcases hv with rfl | rfl | rfl <;> rfl
set_option maxRecDepth 100000 in
theorem load_cw (w : World) (g : Nat) (cs : Array Value) (h : Row w g 42 cs) (hz : cs.size = 3) : (loadVar 42 ⟨g, 0, none⟩).run Tryz.prog w = .ok (.agg cs) w :=
  run_loadVar_row w g 42 42 cs (0, 0) _ h Tryz.underlying42 rfl (by rw [hz]; kernel_rfl)

/-- The epoch of stripe n; why none can be told. -/
def epN (A : Ar) (c : Cf) (id n : Int) : Int := epO (lkEs A c id n (dsN c)) c.k.toNat
def fdE (A : Ar) (c : Cf) (id n : Int) : Int := if vhas c n = true then (if A.down = true then 9 else if epN A c id n = -1 then 10 else 0) else 1
theorem fdE_no {A : Ar} {c : Cf} {id n : Int} (h : vhas c n = false) : fdE A c id n = 1 := by rw [fdE, h]; rfl
theorem fdE_down {A : Ar} {c : Cf} {id n : Int} (h : vhas c n = true) (h2 : A.down = true) : fdE A c id n = 9 := by rw [fdE, if_pos h, if_pos h2]
theorem fdE_lost {A : Ar} {c : Cf} {id n : Int} (h : vhas c n = true) (h2 : A.down = false) (h3 : epN A c id n = -1) : fdE A c id n = 10 := by rw [fdE, if_pos h, if_neg (by rw [h2]; decide), if_pos h3]
theorem fdE_yes {A : Ar} {c : Cf} {id n : Int} (h : vhas c n = true) (h2 : A.down = false) (h3 : epN A c id n ≠ -1) : fdE A c id n = 0 := by rw [fdE, if_pos h, if_neg (by rw [h2]; decide), if_neg h3]
def FindP (w : World) (A : Ar) (c : Cf) (id n : Int) (e : Ending) (w' : World) : Prop :=
  Below w.heap.size w w' ∧ ((fdE A c id n ≠ 0 ∧ e = .returned (.tuple #[.agg cwz, .int .i64 (fdE A c id n)])) ∨
    (fdE A c id n = 0 ∧ ∃ v1 v2, e = .returned (.tuple #[.agg #[.int .i64 (epN A c id n), v1, v2], .int .i64 0]) ∧ w'.ownsRow w.heap.size 9 1 v1 (dsN c) (strs (lkSs A c id n (dsN c))) ∧ w'.ownsRow w.heap.size 4 1 v2 (dsN c) (hbs (hvE (lkEs A c id n (dsN c)) (epN A c id n)))))

set_option maxRecDepth 100000 in
set_option maxHeartbeats 4000000 in
theorem find_any {w : World} {pv pa : Nat} {fp : List Nat} {A : Ar} {c : Cf} {id seq : Int} (h : IsW w pv pa fp A c id seq) (hs : Slim A) (hc : Fine c) (n : Int) (hn : n ≤ 9223372036854775807) :
    Calls Tryz.prog 14 #[.pointer (some ⟨pv, 0, none⟩), .int .i64 n] w (FindP w A c id n) := by
  have HB0 : Hid (Below w.heap.size w (w.alloc (.cells cwz 42))) := (Below.refl _ _).alloc (Nat.le_refl _) _
  have HR0 : Hid (Row (w.alloc (.cells cwz 42)) w.heap.size 42 cwz) := Row.new _ _ _
  have H0 : Hid (IsW w pv pa fp A c id seq) := h
  have CH : Hid (_) := vhas_any (h.below HB0.out) n
  have CD : Hid (∀ W, Below w.heap.size w W → Calls Tryz.prog 22 #[.pointer (some ⟨pa, 0, none⟩)] W fun e w' => e = .returned (.bool A.down) ∧ w' = W) := show ∀ W, _ → _ from fun W hW => adown_any (h.below hW).arr
  have CL : Hid (∀ W, Below w.heap.size w W → Calls Tryz.prog 43 #[.pointer (some ⟨pv, 0, none⟩), .int .i64 n] W (LookP W A c id n)) := show ∀ W, _ → _ from fun W hW => look_any (h.below hW) hs hc n hn
  have hkk : (c.k.toNat : Int) = c.k := by have := hc.k1; omega
  have CE : Hid (∀ W v, W.ownsRow w.heap.size 3 1 v (dsN c) (zcs (lkEs A c id n (dsN c))) → Calls Tryz.prog 44 #[v, .int .i64 c.k] W fun e w' => e = .returned (.int .i64 (epN A c id n)) ∧ Below W.heap.size W w') := show ∀ W v, _ → _ from fun W v ho => by
    have hd : dsN c ≤ 255 := by unfold dsN; have := hc.km; omega
    have h2 := epochof_any (v := v) (l := lkEs A c id n (dsN c)) (by rw [lkEs_length]; exact ho) (by rw [lkEs_length]; omega) c.k.toNat (by have := hc.k1; omega) (by have := hc.k1; have := hc.m1; have := hc.km; omega)
    rw [hkk] at h2
    exact h2
  have HF : Hid (∀ w', Below w.heap.size w w' → fdE A c id n ≠ 0 → FindP w A c id n (.returned (.tuple #[.agg cwz, .int .i64 (fdE A c id n)])) w') := show ∀ w', _ → _ → _ from fun w' hb hne => ⟨hb, .inl ⟨hne, rfl⟩⟩
  have x0 : (w.alloc (.cells cwz 42)).cell? ⟨pv, 0, none⟩ = some (.pointer (some ⟨pa, 0, none⟩)) := (h.below HB0.out).row.cell rfl
  unfold cwz at HR0 HF CH HB0 x0
  have hD : dsN c ≤ 255 := by unfold dsN; have := hc.km; omega
  cases hv : vhas c n with
  | false =>
    rw [hv] at CH
    have HE : Hid (_) := fdE_no (A := A) (id := id) hv
    rw [HE.out] at HF
    clear h hs hv CD CL CE x0
    go_enter Tryz.func14, Tryz.ntmps14
    go_wp2_with fail
    refine Calls.mono CH.out ?_
    rintro e w1 ⟨rfl, hb⟩
    have HR1 : Hid (Row w1 w.heap.size 42 cwz) := HR0.out.kept (Fr.of_below (fp := []) hb) (by simp)
    have HB1 : Hid (Below w.heap.size w w1) := below_step HB0.out hb
    clear hb CH HR0 HB0
    go_wp2_with (refine wpList_store_row rfl 42 _ _ rfl w.heap.size cwz rfl rfl 42 cwz HR1.out (by kernel_rfl) (by rfl) (cw_one 0 none none 0 0 0 0) ?_)
    (try simp only [Exit.inBlock, Exit.then])
    refine bodyPost_ret (v := .tuple #[.agg cwz, .int .i64 1]) (results_row_tmp (p := 4) (u := 5) rfl _ _ w.heap.size cwz rfl (load_cw _ _ _ (setRow_heap _ _ _ _ _ _ HR1.out) rfl)) rfl (HF.out _ (below_setRow HB1.out (Nat.le_refl _) _) (by decide))
  | true =>
  rw [hv] at CH
  have hw0 : w.heap.size < (w.alloc (.cells #[.int .i64 0, .slice none 0 0, .slice none 0 0] 42)).heap.size := by simp
  by_cases hdn : A.down = true
  · have HE : Hid (_) := fdE_down (A := A) (id := id) hv hdn
    rw [HE.out] at HF
    rw [hdn] at CD
    clear h hs CL CE
    go_enter Tryz.func14, Tryz.ntmps14
    go_wp2_with fail
    refine Calls.mono CH.out ?_
    rintro e w1 ⟨rfl, hb⟩
    have HR1 : Hid (Row w1 w.heap.size 42 cwz) := HR0.out.kept (Fr.of_below (fp := []) hb) (by simp)
    have HB1 : Hid (Below w.heap.size w w1) := below_step HB0.out hb
    have x1 : w1.cell? ⟨pv, 0, none⟩ = some (.pointer (some ⟨pa, 0, none⟩)) := (H0.out.below HB1.out).row.cell rfl
    clear hb CH HR0 HB0 x0
    go_wp2_with fail
    refine same (CD.out _ HB1.out) ?_
    clear CD x1
    go_wp2_with (refine wpList_store_row rfl 42 _ _ rfl w.heap.size cwz rfl rfl 42 cwz HR1.out (by kernel_rfl) (by rfl) (cw_one 0 none none 0 0 0 0) ?_)
    (try simp only [Exit.inBlock, Exit.then])
    refine bodyPost_ret (v := .tuple #[.agg cwz, .int .i64 9]) (results_row_tmp (p := 4) (u := 5) rfl _ _ w.heap.size cwz rfl (load_cw _ _ _ (setRow_heap _ _ _ _ _ _ HR1.out) rfl)) rfl (HF.out _ (below_setRow HB1.out (Nat.le_refl _) _) (by decide))
  have hdn : A.down = false := by simpa using hdn
  rw [hdn] at CD
  have HEL : Hid (epN A c id n = -1 → fdE A c id n = 10) := show _ → _ from fun h3 => fdE_lost hv hdn h3
  have HFI : Hid (∀ w' v1 v2, Below w.heap.size w w' → epN A c id n ≠ -1 → w'.ownsRow w.heap.size 9 1 v1 (dsN c) (strs (lkSs A c id n (dsN c))) → w'.ownsRow w.heap.size 4 1 v2 (dsN c) (hbs (hvE (lkEs A c id n (dsN c)) (epN A c id n))) → FindP w A c id n (.returned (.tuple #[.agg #[.int .i64 (epN A c id n), v1, v2], .int .i64 0])) w') := show ∀ w' v1 v2, _ → _ → _ → _ → _ from fun w' v1 v2 h1 h2 h3 h4 => ⟨h1, .inr ⟨fdE_yes hv hdn h2, v1, v2, rfl, h3, h4⟩⟩
  have HFL : Hid (epN A c id n = -1 → ∀ w', Below w.heap.size w w' → FindP w A c id n (.returned (.tuple #[.agg #[.int .i64 0, .slice none 0 0, .slice none 0 0], .int .i64 10])) w') := show _ → ∀ w', _ → _ from fun h3 w' hb => by
    have := HF.out w' hb (by rw [HEL.out h3]; decide)
    rw [HEL.out h3] at this
    exact this
  have HKC : Hid (∀ W, Below w.heap.size w W → W.cell? ⟨pv, 0, none⟩ = some (.pointer (some ⟨pa, 0, none⟩)) ∧ W.cell? ⟨pv, 1, none⟩ = some (.int .i64 c.k)) := show ∀ W, _ → _ from fun W hW => ⟨(H0.out.below hW).row.cell rfl, (H0.out.below hW).row.cell rfl⟩
  unfold LookP at CL
  have HLN : Hid ((lkEs A c id n (dsN c)).length = dsN c) := lkEs_length A c id n (dsN c)
  generalize epN A c id n = ep at CE HEL HFI HFL
  generalize lkEs A c id n (dsN c) = es at CL CE HFI HLN
  generalize lkSs A c id n (dsN c) = ss at CL HFI
  obtain ⟨D, hDe⟩ : ∃ D, D = dsN c := ⟨_, rfl⟩
  rw [← hDe] at CL CE HFI HLN hD
  obtain ⟨K, hKe⟩ : ∃ K, K = c.k := ⟨_, rfl⟩
  rw [← hKe] at CE HKC
  clear h hs HF HEL hDe hkk hKe hv hdn
  go_enter Tryz.func14, Tryz.ntmps14
  go_wp2_with fail
  refine Calls.mono CH.out ?_
  rintro e w1 ⟨rfl, hb⟩
  have HR1 : Hid (Row w1 w.heap.size 42 cwz) := HR0.out.kept (Fr.of_below (fp := []) hb) (by simp)
  have HB1 : Hid (Below w.heap.size w w1) := below_step HB0.out hb
  have HW1 : Hid (w.heap.size < w1.heap.size) := HR1.out.lt
  obtain ⟨x1, _⟩ := HKC.out w1 HB1.out
  clear hb CH HR0 HB0 x0 hw0
  go_wp2_with fail
  refine same (CD.out _ HB1.out) ?_
  clear CD x1
  go_wp2_with fail
  refine Calls.mono (CL.out _ HB1.out) ?_
  rintro e w2 ⟨v1, v2, rfl, o1, o2, hb⟩
  have HR2 : Hid (Row w2 w.heap.size 42 cwz) := HR1.out.kept (Fr.of_below (fp := []) hb) (by simp)
  have HB2 : Hid (Below w.heap.size w w2) := below_step HB1.out hb
  have O1 : Hid (w2.ownsRow w.heap.size 9 1 v1 D (strs ss)) := Go.Joins.ownsRow_le o1 (by have := HW1.out; omega)
  have O2 : Hid (w2.ownsRow w.heap.size 3 1 v2 D (zcs es)) := Go.Joins.ownsRow_le o2 (by have := HW1.out; omega)
  have C2 : Hid (_) := CE.out w2 v2 O2.out
  obtain ⟨_, x1⟩ := HKC.out w2 HB2.out
  obtain ⟨a1, c1, hv1⟩ : ∃ a1 c1, v1 = .slice a1 D c1 := by
    rcases o1.2 with ⟨e1, e2⟩ | ⟨g, cap, cur, e1, _⟩
    · exact ⟨none, 0, by rw [e1, e2]⟩
    · exact ⟨_, _, e1⟩
  obtain ⟨a2, c2, hv2, hcell⟩ : ∃ a2 c2, v2 = .slice a2 D c2 ∧ (0 < D → ∃ b, a2 = some ⟨b, 0, none⟩ ∧ b < w2.heap.size ∧ ∀ i, i < D → w2.cell? ⟨b, i, none⟩ = some (.int .i64 (es.getD i 0))) := by
    obtain ⟨a2, c2, e1, _, _, e2⟩ := own_zcs (l := es) (by rw [HLN.out]; exact o2)
    rw [HLN.out] at e1 e2
    exact ⟨a2, c2, e1, fun h0 => by obtain ⟨b, q1, _, q2, q3⟩ := e2 h0; exact ⟨b, q1, q2, q3⟩⟩
  subst hv1 hv2
  have HCE : Hid (∀ W, Below w2.heap.size w2 W → ∀ i, i < D → ∃ b, a2 = some ⟨b, 0, none⟩ ∧ W.cell? ⟨b, i, none⟩ = some (.int .i64 (es.getD i 0))) := show ∀ W, _ → ∀ i, _ → _ from fun W hW i hi => by
    obtain ⟨b, e1, hbl, hc⟩ := hcell (by omega)
    exact ⟨b, e1, (hW.cell hbl).trans (hc i hi)⟩
  clear hb o1 o2 hcell CL CE HR1 HB1 HW1
  go_wp2_with fail
  refine Calls.mono C2.out ?_
  rintro e w3 ⟨rfl, hb⟩
  have HR3 : Hid (Row w3 w.heap.size 42 cwz) := HR2.out.kept (Fr.of_below (fp := []) hb) (by simp)
  have HB3 : Hid (Below w.heap.size w w3) := below_step HB2.out hb
  have HB23 : Hid (Below w2.heap.size w2 w3) := hb
  clear hb C2 HR2 HB2 x1
  by_cases he : ep = -1
  · have HFE := show Hid (_) from HFL.out he
    have heq : (ep == -1) = true := by rw [beq_iff_eq]; exact he
    clear he HCE HFI
    go_wp2_with (refine wpList_store_row rfl 42 _ _ rfl w.heap.size cwz rfl rfl 42 cwz HR3.out (by kernel_rfl) (by rfl) (cw_one 0 none none 0 0 0 0) ?_)
    (try simp only [Exit.inBlock, Exit.then])
    refine bodyPost_ret (v := .tuple #[.agg cwz, .int .i64 10]) (results_row_tmp (p := 4) (u := 5) rfl _ _ w.heap.size cwz rfl (load_cw _ _ _ (setRow_heap _ _ _ _ _ _ HR3.out) rfl)) rfl (HFE.out _ (below_setRow HB3.out (Nat.le_refl _) _))
  have heq : (ep == -1) = false := by rw [beq_eq_false_iff_ne]; exact he
  have HNE : Hid (ep ≠ -1) := he
  have hmk := run_make_row' 40 4 (.bool false) 1 Tryz.underlying40 vinfo_bool rfl .i64 .i64 D (by omega) (by omega) w3
  obtain ⟨V, hV⟩ : ∃ V, V = w3.alloc (.cells (madeCells #[.bool false] D) 4) := ⟨_, rfl⟩
  have HBV : Hid (Below w3.heap.size w3 V) := show Below _ _ _ by rw [hV]; exact (Below.refl _ _).alloc (Nat.le_refl _) _
  have HOV : Hid (V.ownsRow w3.heap.size 4 1 (.slice (some ⟨w3.heap.size, 0, none⟩) D D) D (hbs (hvk es ep 0))) := show World.ownsRow _ _ _ _ _ _ _ by
    have := World.ownsRow_lit (base := w3.heap.size) (e := 4) (size := 1) w3 (madeCells #[.bool false] D) D (Nat.le_refl _) (by unfold maxLen; omega) (by simp [size_madeCells])
    rw [vmade_bools, ← hV] at this
    rw [hvk_zero, HLN.out, hbs, List.map_replicate]
    exact this
  rw [← hV] at hmk
  clear hV he
  go_wp2
  go_loopw [43] (fun i wx => ∃ j : Nat, j ≤ D ∧ i = .int .i64 (j : Int) ∧ wx.ownsRow w3.heap.size 4 1 (.slice (some ⟨w3.heap.size, 0, none⟩) D D) D (hbs (hvk es ep j)) ∧ Below w3.heap.size w3 wx) (fun i _ => D - (RowKit.intOf i).toNat)
  case atStart => exact ⟨0, by omega, rfl, HOV.out, HBV.out⟩
  case round =>
    obtain ⟨j, hj, rfl, hown, hbel⟩ := hrel
    have HO1 : Hid (wr.ownsRow w3.heap.size 4 1 (.slice (some ⟨w3.heap.size, 0, none⟩) D D) D (hbs (hvk es ep j))) := hown
    have HBW : Hid (Below w3.heap.size w3 wr) := hbel
    clear hown hbel hmk
    by_cases hlt : j < D
    · obtain ⟨b, rfl, hd⟩ := HCE.out wr (below_step HB23.out HBW.out) j hlt
      obtain ⟨hs1, hs2⟩ := own_isSome HO1.out hlt
      obtain ⟨old, hold⟩ : ∃ o, wr.cell? ⟨w3.heap.size, j, none⟩ = some o := Option.isSome_iff_exists.1 hs1
      have HO2 : Hid ((wr.setCell ⟨w3.heap.size, j, none⟩ (.bool (es.getD j 0 == ep))).ownsRow w3.heap.size 4 1 (.slice (some ⟨w3.heap.size, 0, none⟩) D D) D (hbs (hvk es ep (j + 1)))) := show World.ownsRow _ _ _ _ _ _ _ by
        rw [← hvk_set (by rw [HLN.out]; exact hlt)]; exact own_set HO1.out hlt _
      have HBX : Hid (Below w3.heap.size w3 (wr.setCell ⟨w3.heap.size, j, none⟩ (.bool (es.getD j 0 == ep)))) := HBW.out.setCell (Nat.le_refl _) _
      generalize es.getD j 0 = x at hd HO2 HBX
      clear hs1 HO1 HBW
      go_wp2
      go_roundw
      case rel => exact ⟨j + 1, by omega, by go_num, HO2.out, HBX.out⟩
      case measure => simp [RowKit.intOf]; omega
    · obtain rfl : j = D := by omega
      have HO3 : Hid (wr.ownsRow w3.heap.size 4 1 (.slice (some ⟨w3.heap.size, 0, none⟩) j j) j (hbs (hvE es ep))) := show World.ownsRow _ _ _ _ _ _ _ by
        have := HO1.out
        rw [show hvk es ep j = hvE es ep by rw [← HLN.out]; exact hvk_all es ep] at this
        exact this
      have HR4 : Hid (Row wr w.heap.size 42 cwz) := HR3.out.kept (Fr.of_below (fp := []) HBW.out) (by simp)
      have HB4 : Hid (Below w.heap.size w wr) := below_step HB3.out HBW.out
      have O4 : Hid (wr.ownsRow w.heap.size 9 1 (.slice a1 j c1) j (strs ss)) := own_kept O1.out (Fr.of_below (fp := []) (below_step HB23.out HBW.out)) (by simp)
      have HW3 : Hid (w.heap.size < w3.heap.size) := HR3.out.lt
      have HEND : Hid (FindP w A c id n (.returned (.tuple #[.agg #[.int .i64 ep, .slice a1 j c1, .slice (some ⟨w3.heap.size, 0, none⟩) j j], .int .i64 0])) (wr.setRow w.heap.size #[.int .i64 ep, .slice a1 j c1, .slice (some ⟨w3.heap.size, 0, none⟩) j j])) := show FindP _ _ _ _ _ _ _ by
        have hfr : Fr [w.heap.size] wr (wr.setRow w.heap.size #[.int .i64 ep, .slice a1 j c1, .slice (some ⟨w3.heap.size, 0, none⟩) j j]) := ⟨rfl, rfl, rfl, by simp, fun k hk hn => setRow_other _ _ _ _ (by simpa using hn)⟩
        refine HFI.out _ _ _ (below_setRow HB4.out (Nat.le_refl _) _) HNE.out (own_kept O4.out hfr (fun k hk e => ?_)) (own_kept (Go.Joins.ownsRow_le HO3.out (by have := HW3.out; omega)) hfr (fun k hk e => ?_))
        · simp only [List.mem_singleton] at e
          subst e
          exact row_apart HR4.out O4.out (by decide) hk
        · simp only [List.mem_singleton] at e
          subst e
          exact row_apart HR4.out HO3.out (by decide) hk
      clear HO1 HBW HO3 O4
      go_wp2_with (refine wpList_store_row rfl 42 _ _ rfl w.heap.size #[.int .i64 ep, .slice a1 j c1, .slice (some ⟨w3.heap.size, 0, none⟩) j j] rfl rfl 42 cwz HR4.out (by kernel_rfl) (by rfl) (cw_one _ _ _ _ _ _ _) ?_)
      (try simp only [Exit.inBlock, Exit.then])
      exact bodyPost_ret (v := .tuple #[.agg #[.int .i64 ep, .slice a1 j c1, .slice (some ⟨w3.heap.size, 0, none⟩) j j], .int .i64 0]) (results_row_tmp (p := 4) (u := 5) rfl _ _ w.heap.size #[.int .i64 ep, .slice a1 j c1, .slice (some ⟨w3.heap.size, 0, none⟩) j j] rfl (load_cw _ _ _ (setRow_heap _ _ _ _ _ _ HR4.out) rfl)) rfl HEND.out
end Go.Proofs.YtbmjcnmgignaoaaGreatDoor

/- What stripe's areOfSize and textOf return. -/
namespace Go.Proofs.YtbmjcnmgignaoaaGreatDoor
open Go.RowKit Vecm Opened Tab Lin Wirem Txt Frm
open Crcm (bys)
set_option linter.unusedVariables false

/-- Are all shards that there are of one size? -/
def szsB (ss : List ByteArray) (hv : List Bool) (sh : Nat) : Bool := (List.range ss.length).all fun i => !(hv.getD i false) || decide ((row ss i).size = sh)
theorem szsB_iff {ss : List ByteArray} {hv : List Bool} {sh : Nat} : szsB ss hv sh = true ↔ ∀ i, i < ss.length → hv.getD i false = true → (row ss i).size = sh := by
  simp only [szsB, List.all_eq_true, List.mem_range, Bool.or_eq_true, Bool.not_eq_true', decide_eq_true_eq]
  constructor
  · intro h i hi hh
    rcases h i hi with e | e
    · rw [e] at hh; cases hh
    · exact e
  · intro h i hi
    cases e : hv.getD i false
    · exact .inl rfl
    · exact .inr (h i hi e)
theorem szsB_no {ss : List ByteArray} {hv : List Bool} {sh i : Nat} (hi : i < ss.length) (hh : hv.getD i false = true) (h : (row ss i).size ≠ sh) : szsB ss hv sh = false := by
  rw [← Bool.not_eq_true]
  exact fun c => h (szsB_iff.1 c i hi hh)

set_option maxRecDepth 100000 in
set_option maxHeartbeats 1000000 in
theorem ofsize_any (n cap : Nat) (a : Option Addr) (ss : List ByteArray) (b : Option Addr) (cb : Nat) (hv : List Bool) (sh : Nat) (w : World) (h : IsS w a n ss) (hT : IsT w b n hv) :
    Calls Tryz.prog 91 #[.slice a n cap, .slice b n cb, .int .i64 (sh : Int)] w fun e w' => e = .returned (.bool (szsB ss hv sh)) ∧ Below w.heap.size w w' := by
  have hl := IsS.len h
  have hln : ss.length = n := h.1
  have HLN : Hid (ss.length = n) := hln
  have HSZ : Hid (_) := IsS.size h
  have HC : Hid (_) := h.2.2.2
  have HD : Hid (_) := hT.2.2
  clear h hT hln
  go_enter Tryz.func91, Tryz.ntmps91
  go_wp2
  go_loopw [11] (fun i wr => ∃ k : Nat, k ≤ n ∧ i = .int .i64 k ∧ Below w.heap.size w wr ∧ ∀ j, j < k → hv.getD j false = true → (row ss j).size = sh) (fun i _ => n - (intOf i).toNat)
  case atStart => exact ⟨0, by omega, rfl, Below.refl _ _, fun j hj => by omega⟩
  case round =>
    obtain ⟨k, hk, rfl, hbel, hall⟩ := hrel
    have HA : Hid (∀ j, j < k → hv.getD j false = true → (row ss j).size = sh) := hall
    have HB : Hid (Below w.heap.size w wr) := hbel
    clear hall hbel
    by_cases hlt : k < n
    · obtain ⟨b1, o1, rfl, hb1, hcell1⟩ := HC.out (by omega)
      obtain ⟨b2, o2, rfl, hb2, hcell2⟩ := HD.out (by omega)
      obtain ⟨s, hs⟩ : ∃ s, s = row ss k := ⟨_, rfl⟩
      obtain ⟨p, hp⟩ : ∃ p, p = hv.getD k false := ⟨_, rfl⟩
      have hcx : wr.cell? ⟨b1, o1 + k, none⟩ = some (.string s) := by rw [hs, HB.out.cell (by exact hb1)]; exact hcell1 k hlt
      have hcb : wr.cell? ⟨b2, o2 + k, none⟩ = some (.bool p) := by rw [hp, HB.out.cell (by exact hb2)]; exact hcell2 k hlt
      have hsz : s.size ≤ 9223372036854775807 := by rw [hs]; exact HSZ.out k
      have HS : Hid (s = row ss k) := hs
      have HP : Hid (p = hv.getD k false) := hp
      have hk0 : (0 : Int) ≤ (k : Int) := by omega
      have hk1 : (k : Int) < (n : Int) := by omega
      clear hs hp hcell1 hcell2
      cases p
      · go_wp2
        go_roundw
        case rel => exact ⟨k + 1, by omega, by go_num, HB.out, fun j hj hh => if e : j = k then by rw [e, ← HP.out] at hh; cases hh else HA.out j (by omega) hh⟩
        case measure => simp [intOf]; omega
      · by_cases he : s.size = sh
        · have e1 : ((s.size : Int) != (sh : Int)) = false := by rw [he]; simp
          have HE : Hid (s.size = sh) := he
          clear he
          go_wp2
          go_roundw
          case rel => exact ⟨k + 1, by omega, by go_num, HB.out, fun j hj hh => if e : j = k then by rw [e, ← HS.out]; exact HE.out else HA.out j (by omega) hh⟩
          case measure => simp [intOf]; omega
        · have e1 : ((s.size : Int) != (sh : Int)) = true := by rw [bne_iff_ne]; omega
          have HN : Hid (szsB ss hv sh = false) := szsB_no (i := k) (by rw [HLN.out]; exact hlt) HP.out.symm (by rw [← HS.out]; exact he)
          clear he
          go_wp2
          go_ret
          exact ⟨by rw [HN.out]; rfl, HB.out⟩
    · have HY : Hid (szsB ss hv sh = true) := szsB_iff.2 fun j hj hh => HA.out j (by rw [HLN.out] at hj; omega) hh
      have hk1 : ¬ (k : Int) < (n : Int) := by omega
      go_wp2
      go_ret
      exact ⟨by rw [HY.out]; rfl, HB.out⟩

/-- What textOf answers. -/
def ttE (s : ByteArray) : Int := if okT s = true then 0 else 5
def ttS (s : ByteArray) : ByteArray := if okT s = true then txT s else ⟨#[]⟩

set_option maxRecDepth 100000 in
set_option maxHeartbeats 1000000 in
theorem textof_any (s : ByteArray) (w : World) (hs : s.size ≤ 140737488355328) :
    Calls Tryz.prog 92 #[.string s] w fun e w' => e = .returned (.tuple #[.string (ttS s), .int .i64 (ttE s)]) ∧ Below w.heap.size w w' := by
  have C1 : Hid (∀ W, Calls Tryz.prog 105 #[.string s, .int .i64 4] W fun e w' => e = .returned (.tuple #[.int .i64 (lenT s), .string (behT s), .int .i64 (cutE s 4)]) ∧ Below W.heap.size W w') := show ∀ W, _ from fun W => cut_any s 4 W (by omega)
  obtain ⟨n, hn⟩ := lenT_nat s
  have hbz : (behT s).size ≤ s.size := by
    unfold behT cutS
    split
    · rw [ByteArray.size_extract]; omega
    · exact Nat.zero_le _
  have HY : Hid (n ≤ (behT s).size → zrB ((behT s).extract n (behT s).size) = true → ttS s = (behT s).extract 0 n ∧ ttE s = 0) := show _ → _ → _ from fun h1 h2 => by
    have : okT s = true := by rw [okT, hn, Int.toNat_natCast, h2]; simp; exact h1
    exact ⟨by rw [ttS, if_pos this, txT, hn, Int.toNat_natCast], if_pos this⟩
  have HN : Hid (¬ (n ≤ (behT s).size ∧ zrB ((behT s).extract n (behT s).size) = true) → ttS s = ⟨#[]⟩ ∧ ttE s = 5) := show _ → _ from fun h => by
    have : ¬ okT s = true := by
      intro c
      rw [okT, hn, Int.toNat_natCast, Bool.and_eq_true, decide_eq_true_eq] at c
      exact h ⟨by omega, c.2⟩
    exact ⟨if_neg this, if_neg this⟩
  rw [hn] at C1
  generalize behT s = B at C1 hbz HY HN
  generalize cutE s 4 = E at C1
  generalize ttS s = TS at HY HN ⊢
  generalize ttE s = TE at HY HN ⊢
  clear hn
  by_cases c1 : (B.size : Int) < (n : Int)
  · obtain ⟨h1, h2⟩ := HN.out (fun x => by omega)
    have HR : Hid (TS = ⟨#[]⟩ ∧ TE = 5) := show _ ∧ _ from ⟨h1, h2⟩
    clear h1 h2 HN HY hbz
    go_enter Tryz.func92, Tryz.ntmps92
    go_wp2_with fail
    refine Calls.mono (C1.out _) ?_
    rintro e w1 ⟨rfl, hb⟩
    go_wp2
    go_ret2
    exact ⟨by rw [HR.out.1, HR.out.2]; rfl, hb⟩
  have hnB : n ≤ B.size := by omega
  obtain ⟨D, hD⟩ : ∃ D, D = B.extract n B.size := ⟨_, rfl⟩
  have hDz : D.size ≤ 9223372036854775807 := by rw [hD, ByteArray.size_extract]; omega
  have C2 : Hid (∀ W, Calls Tryz.prog 134 #[.string D, .string ⟨#[0]⟩] W fun e w' => e = .returned (.string ⟨(Go.Lib.trimB D.data.toList 0).toArray⟩) ∧ (w' = W ∨ w' = W.drew)) := show ∀ W, _ from fun W => shl_Trim_one D 0 (by decide) W hDz
  have hTZ := trim_zero D
  obtain ⟨U, hU⟩ : ∃ U, U = (⟨(Go.Lib.trimB D.data.toList 0).toArray⟩ : ByteArray) := ⟨_, rfl⟩
  have HUZ : Hid (U = ⟨#[]⟩ ↔ zrB D = true) := show _ ↔ _ from by
    rw [← hTZ, hU]
    constructor
    · intro h
      have := congrArg (fun x : ByteArray => x.data.toList) h
      simpa using this
    · intro h; rw [h]
  rw [← hU] at C2
  rw [← hD] at HY HN
  have hi0 : (0 : Int) ≤ (n : Int) := by omega
  have hi1 : (n : Int) ≤ (B.size : Int) := by omega
  have hDe : B.extract n B.size = D := hD.symm
  have HBW : Hid (∀ W W' : World, Below w.heap.size w W → W' = W ∨ W' = W.drew → Below w.heap.size w W') := show ∀ W W', _ → _ → _ from fun W W' h => by
    rintro (rfl | rfl)
    · exact h
    · exact Below.drew h
  clear hTZ hU hD hbz hDz
  by_cases cz : U = ⟨#[]⟩
  · obtain ⟨h1, h2⟩ := HY.out hnB (HUZ.out.1 cz)
    have HR : Hid (TS = B.extract 0 n ∧ TE = 0) := show _ ∧ _ from ⟨h1, h2⟩
    subst cz
    clear h1 h2 HN HY HUZ hnB
    go_enter Tryz.func92, Tryz.ntmps92
    go_wp2_with fail
    refine Calls.mono (C1.out _) ?_
    rintro e w1 ⟨rfl, hb⟩
    have H1 := show Hid (Below w.heap.size w w1) from hb
    clear hb
    go_wp2_with fail
    refine Calls.mono (C2.out _) ?_
    rintro e w2 ⟨rfl, hb⟩
    have H2 := show Hid (Below w.heap.size w w2) from HBW.out _ _ H1.out hb
    clear hb H1
    go_wp2
    go_ret2
    exact ⟨by rw [HR.out.1, HR.out.2]; rfl, H2.out⟩
  · obtain ⟨h1, h2⟩ := HN.out (fun x => cz (HUZ.out.2 x.2))
    have HR : Hid (TS = ⟨#[]⟩ ∧ TE = 5) := show _ ∧ _ from ⟨h1, h2⟩
    have hne : (U.toList == []) = false := by
      have e := ne_lists cz
      rw [Lib.toList_data ⟨#[]⟩] at e
      exact e
    clear h1 h2 HN HY HUZ hnB cz
    go_enter Tryz.func92, Tryz.ntmps92
    go_wp2_with fail
    refine Calls.mono (C1.out _) ?_
    rintro e w1 ⟨rfl, hb⟩
    have H1 := show Hid (Below w.heap.size w w1) from hb
    clear hb
    go_wp2_with fail
    refine Calls.mono (C2.out _) ?_
    rintro e w2 ⟨rfl, hb⟩
    have H2 := show Hid (Below w.heap.size w w2) from HBW.out _ _ H1.out hb
    clear hb H1
    go_wp2
    go_ret2
    exact ⟨by rw [HR.out.1, HR.out.2]; rfl, H2.out⟩
end Go.Proofs.YtbmjcnmgignaoaaGreatDoor

/- What stripe's Join returns. -/
namespace Go.Proofs.YtbmjcnmgignaoaaGreatDoor
open Go.RowKit Vecm Opened Tab Lin Wirem Txt Frm
open Crcm (bys)
set_option linter.unusedVariables false

/-- The errors of Join, but for those of the text itself. -/
def jchE (c : Cfm.Cf) (ss : List ByteArray) (hv : List Bool) : Int :=
  if Cfm.chE c = 0 then (if (ss.length : Int) = diskN c then (if decE c.k ss hv = 1 then 1 else if szsB ss hv c.sh.toNat = true then decE c.k ss hv else 1) else 1) else Cfm.chE c
theorem jch_conf {c : Cfm.Cf} {ss : List ByteArray} {hv : List Bool} (h : Cfm.chE c ≠ 0) : jchE c ss hv = Cfm.chE c := if_neg h
theorem jch_len {c : Cfm.Cf} {ss : List ByteArray} {hv : List Bool} (h : Cfm.chE c = 0) (k : ¬ (ss.length : Int) = diskN c) : jchE c ss hv = 1 := by rw [jchE, if_pos h, if_neg k]
theorem jch_arg {c : Cfm.Cf} {ss : List ByteArray} {hv : List Bool} (h : Cfm.chE c = 0) (k : (ss.length : Int) = diskN c) (e : decE c.k ss hv = 1) : jchE c ss hv = 1 := by rw [jchE, if_pos h, if_pos k, if_pos e]
theorem jch_size {c : Cfm.Cf} {ss : List ByteArray} {hv : List Bool} (h : Cfm.chE c = 0) (k : (ss.length : Int) = diskN c) (e : decE c.k ss hv ≠ 1) (z : ¬ szsB ss hv c.sh.toNat = true) : jchE c ss hv = 1 := by rw [jchE, if_pos h, if_pos k, if_neg e, if_neg z]
theorem jch_dec {c : Cfm.Cf} {ss : List ByteArray} {hv : List Bool} (h : Cfm.chE c = 0) (k : (ss.length : Int) = diskN c) (e : decE c.k ss hv ≠ 1) (z : szsB ss hv c.sh.toNat = true) : jchE c ss hv = decE c.k ss hv := by rw [jchE, if_pos h, if_pos k, if_neg e, if_pos z]
theorem dec_len {k : Int} {ss : List ByteArray} {hv : List Bool} (h : decE k ss hv ≠ 1) : hv.length = ss.length := by
  rw [decE] at h
  by_cases c : hv.length = ss.length ∧ gmayB k ((ss.length : Int) - k) = true
  · exact c.1
  · rw [if_neg c] at h; exact absurd rfl h

def JRes (c : Cfm.Cf) (ss : List ByteArray) (hv : List Bool) (s : ByteArray) (er : Int) : Prop :=
  (jchE c ss hv ≠ 0 → er = jchE c ss hv ∧ s = ⟨#[]⟩) ∧ (jchE c ss hv = 0 → ∃ xs, Fits c.k.toNat ss hv xs ∧ s = ttS (jn xs) ∧ er = ttE (jn xs))
def JoinP (w : World) (c : Cfm.Cf) (ss : List ByteArray) (hv : List Bool) (e : Ending) (w' : World) : Prop :=
  ∃ s er, e = .returned (.tuple #[.string s, .int .i64 er]) ∧ JRes c ss hv s er ∧ Below w.heap.size w w'
theorem JoinP.no {w w' : World} {c : Cfm.Cf} {ss : List ByteArray} {hv : List Bool} {k : Int} (h : jchE c ss hv = k) (hk : k ≠ 0) (hb : Below w.heap.size w w') : JoinP w c ss hv (.returned (.tuple #[.string ⟨#[]⟩, .int .i64 k])) w' :=
  ⟨_, _, rfl, ⟨fun _ => ⟨h.symm, rfl⟩, fun h0 => absurd (h.symm.trans h0) hk⟩, hb⟩
theorem JoinP.yes {w w' : World} {c : Cfm.Cf} {ss : List ByteArray} {hv : List Bool} {xs : List ByteArray} (h : jchE c ss hv = 0) (hf : Fits c.k.toNat ss hv xs) (hb : Below w.heap.size w w') : JoinP w c ss hv (.returned (.tuple #[.string (ttS (jn xs)), .int .i64 (ttE (jn xs))])) w' :=
  ⟨_, _, rfl, ⟨fun h0 => absurd h h0, fun _ => ⟨xs, hf, rfl, rfl⟩⟩, hb⟩

theorem sjoin_any (a : Option Addr) (n c : Nat) (xs : List ByteArray) (w : World) (h : IsSc w a n c xs) (h1 : 1 ≤ n) (hn : n ≤ 140737488355328) (hz : (jn xs).size ≤ 140737488355328) :
    Calls Tryz.prog 93 #[.slice a n c, .string ⟨#[]⟩] w fun e w' => e = .returned (.string (jn xs)) ∧ Below w.heap.size w w' := by
  obtain ⟨⟨hl, -, -, hc⟩, hcap, -⟩ := h
  obtain ⟨b, off, rfl, hb, hcell⟩ := hc (by omega)
  have hd := jn_data xs
  have := shl_Join b off c xs ⟨#[]⟩ w (fun j x hj => by
    have hjl : j < xs.length := (List.getElem?_eq_some_iff.1 hj).1
    rw [hcell j (by omega)]
    simp [List.getD, hj]) hb (by omega) (by omega) (by
      show (Go.Lib.join (xs.map (·.data.toList)) []).length ≤ _
      rw [← hd, Array.length_toList]; exact hz)
  rw [hl] at this
  have e : (⟨(Go.Lib.join (xs.map (·.data.toList)) (ByteArray.mk #[]).data.toList).toArray⟩ : ByteArray) = jn xs := Txt.ext (by rw [hd])
  rw [e] at this
  exact this

set_option maxRecDepth 100000 in
set_option maxHeartbeats 2000000 in
theorem join_any (k m sh st sl : Int) (a : Option Addr) (n cap : Nat) (ss : List ByteArray) (b : Option Addr) (nb cb : Nat) (hv : List Bool) (w : World) (h : IsS w a n ss) (hT : IsT w b nb hv) (hz : ∀ i, (row ss i).size ≤ 1073741824) :
    Calls Tryz.prog 45 #[.agg #[.int .i64 k, .int .i64 m, .int .i64 sh, .int .i64 st, .int .i64 sl], .slice a n cap, .slice b nb cb] w (JoinP w ⟨k, m, sh, st, sl⟩ ss hv) := by
  have X0 : Hid (Sx w (w.alloc (.cells #[.int .i64 k, .int .i64 m, .int .i64 sh, .int .i64 st, .int .i64 sl] 33)) k m sh st sl) := Sx.new _ _ _ _ _ _
  have C1 : Hid (_) := check_lit k m sh st sl
  have C2 : Hid (_) := disks_lit k m sh st sl
  have HLY : Hid (_) := @cf_lay ⟨k, m, sh, st, sl⟩
  have HI : Hid (IsS w a n ss) := h
  have HT : Hid (IsT w b nb hv) := hT
  have HZ : Hid (∀ i, (row ss i).size ≤ 1073741824) := hz
  have hln : ss.length = n := h.1
  have hbn : hv.length = nb := hT.1
  have hnl := IsS.len h
  have HJ0 : Hid (∀ E, E = Cfm.chE ⟨k, m, sh, st, sl⟩ → E ≠ 0 → jchE ⟨k, m, sh, st, sl⟩ ss hv = E) := show ∀ E, _ → _ → _ from fun E hE h0 => by rw [hE] at h0 ⊢; exact jch_conf h0
  have HLN : Hid (ss.length = n) := hln
  have HBN : Hid (hv.length = nb) := hbn
  clear h hT hz hln hbn
  go_enter Tryz.func45, Tryz.ntmps45
  obtain ⟨c0, c1, c2, c3, c4⟩ := X0.out.cells
  go_wp2_with fail
  refine Calls.mono (C1.out _) ?_
  rintro e w1 ⟨rfl, hb⟩
  have X1 := show Hid (Sx w w1 k m sh st sl) from X0.out.put hb
  clear hb X0 c0 c1 c2 c3 c4 C1
  obtain ⟨c0, c1, c2, c3, c4⟩ := X1.out.cells
  obtain ⟨E, hE⟩ : ∃ E, E = Cfm.chE ⟨k, m, sh, st, sl⟩ := ⟨_, rfl⟩
  rw [← hE]
  by_cases e0 : E = 0
  case neg =>
    have hne : (E != 0) = true := by rw [bne_iff_ne]; exact e0
    have HF := show Hid (JoinP w ⟨k, m, sh, st, sl⟩ ss hv (.returned (.tuple #[.string ⟨#[]⟩, .int .i64 E])) w1) from JoinP.no (HJ0.out E hE e0) e0 X1.out.1
    clear e0 HJ0 HLY C2 hE
    go_wp2
    go_ret2
    exact HF.out
  have hch : Cfm.chE ⟨k, m, sh, st, sl⟩ = 0 := by rw [← hE]; exact e0
  obtain ⟨K, M, SH, hK, hM, hSH, hly, -, hdk⟩ := HLY.out hch
  rw [hdk] at C2
  (try dsimp only at hK hM hSH)
  subst hK hM hSH
  have HCH : Hid (Cfm.chE ⟨K, M, SH, st, sl⟩ = 0) := hch
  have HDK : Hid (diskN ⟨K, M, SH, st, sl⟩ = ((K + M : Nat) : Int)) := hdk
  have HL : Hid (Lay K M SH) := hly
  have hk255 : K + M ≤ 255 := hly.km
  have hk1 : 1 ≤ K := hly.k
  have hkk : K ≤ 255 := by omega
  subst e0
  clear HJ0 HLY hE hch hdk hly
  obtain ⟨N, hN⟩ : ∃ N, N = K + M := ⟨_, rfl⟩
  rw [← hN] at C2 HDK hk255
  go_wp2_with fail
  refine Calls.mono (C2.out _) ?_
  rintro e w2 ⟨rfl, hb⟩
  have X2 := show Hid (Sx w w2 K M SH st sl) from X1.out.put hb
  clear hb X1 c0 c1 c2 c3 c4 C2
  obtain ⟨c0, c1, c2, c3, c4⟩ := X2.out.cells
  by_cases g : n = N
  case neg =>
    have hne : ((n : Int) != (N : Int)) = true := by rw [bne_iff_ne]; omega
    have HF := show Hid (JoinP w ⟨K, M, SH, st, sl⟩ ss hv (.returned (.tuple #[.string ⟨#[]⟩, .int .i64 1])) w2) from JoinP.no (jch_len HCH.out (by rw [HDK.out, HLN.out]; omega)) (by decide) X2.out.1
    clear g hN
    go_wp2
    go_ret2
    exact HF.out
  have HLD : Hid ((ss.length : Int) = diskN ⟨K, M, SH, st, sl⟩) := show _ = _ by rw [HDK.out, HLN.out, g]
  have HC3 : Hid (∀ W, Below w.heap.size w W → Calls Tryz.prog 90 #[.int .i64 (K : Int), .slice a n cap, .slice b nb cb] W (DecodesR W K ss hv)) := show ∀ W, _ → _ from fun W hW => decode_any K a n cap ss b nb cb hv W (IsS.below HI.out hW) (IsT.below HT.out hW) HZ.out (by omega) (by omega)
  clear HDK hN
  subst g
  go_wp2_with fail
  refine Calls.mono (HC3.out _ X2.out.1) ?_
  rintro e w3 ⟨xs, er, hR, a3, n3, q3, rfl, i3, hb⟩
  have X3 := show Hid (Sx w w3 K M SH st sl) from X2.out.put hb
  have I3 := show Hid (IsSc w3 a3 n3 q3 xs) from i3
  have HR : Hid (RDec K ss hv xs er) := hR
  clear hb X2 c0 c1 c2 c3 c4 HC3 i3 hR
  obtain ⟨c0, c1, c2, c3, c4⟩ := X3.out.cells
  have her := HR.out.1
  by_cases e1 : er = 1
  · have HF := show Hid (JoinP w ⟨K, M, SH, st, sl⟩ ss hv (.returned (.tuple #[.string ⟨#[]⟩, .int .i64 1])) w3) from JoinP.no (jch_arg HCH.out HLD.out (by rw [e1] at her; exact her.symm)) (by decide) X3.out.1
    subst e1
    clear HR her I3
    go_wp2
    go_ret2
    exact HF.out
  have hne1 : (er == 1) = false := by rw [beq_eq_false_iff_ne]; exact e1
  have hnd : decE K ss hv ≠ 1 := by rw [← her]; exact e1
  have hnb : nb = n := by rw [← HBN.out, dec_len hnd, HLN.out]
  have HND : Hid (decE (Cfm.Cf.mk K M SH st sl).k ss hv ≠ 1) := hnd
  have HER : Hid (er = decE K ss hv) := her
  subst hnb
  have HC4 : Hid (∀ W, Below w.heap.size w W → Calls Tryz.prog 91 #[.slice a nb cap, .slice b nb cb, .int .i64 (SH : Int)] W fun e w' => e = .returned (.bool (szsB ss hv SH)) ∧ Below W.heap.size W w') := show ∀ W, _ → _ from fun W hW => ofsize_any nb cap a ss b cb hv SH W (IsS.below HI.out hW) (IsT.below HT.out hW)
  clear her e1 hnd
  go_wp2_with fail
  refine Calls.mono (HC4.out _ X3.out.1) ?_
  rintro e w4 ⟨rfl, hb⟩
  have X4 := show Hid (Below w.heap.size w w4) from (X3.out.put hb).1
  have I4 := show Hid (IsSc w4 a3 n3 q3 xs) from IsSc.below I3.out hb
  clear hb X3 c0 c1 c2 c3 c4 HC4 I3
  obtain ⟨z, hzs⟩ : ∃ z, z = szsB ss hv SH := ⟨_, rfl⟩
  rw [← hzs]
  have hzt : szsB ss hv (Cfm.Cf.mk K M SH st sl).sh.toNat = szsB ss hv SH := by show szsB ss hv ((SH : Int).toNat) = _; rw [Int.toNat_natCast]
  cases z
  · have HF := show Hid (JoinP w ⟨K, M, SH, st, sl⟩ ss hv (.returned (.tuple #[.string ⟨#[]⟩, .int .i64 1])) w4) from JoinP.no (jch_size HCH.out HLD.out HND.out (by rw [hzt, ← hzs]; simp)) (by decide) X4.out
    clear HR I4 hzs hzt HND HER
    go_wp2
    go_ret2
    exact HF.out
  have HJE : Hid (jchE ⟨K, M, SH, st, sl⟩ ss hv = er) := show _ = _ by rw [jch_dec HCH.out HLD.out HND.out (by rw [hzt, ← hzs])]; exact HER.out.symm
  clear hzs hzt HND HER HLD HCH
  by_cases e2 : er = 0
  case neg =>
    have hne : (er != 0) = true := by rw [bne_iff_ne]; exact e2
    have HF := show Hid (JoinP w ⟨K, M, SH, st, sl⟩ ss hv (.returned (.tuple #[.string ⟨#[]⟩, .int .i64 er])) w4) from JoinP.no HJE.out e2 X4.out
    clear HR I4 HJE e2
    go_wp2
    go_ret2
    exact HF.out
  have hft := HR.out.2.2 e2
  rw [Int.toNat_natCast] at hft
  have HFT : Hid (Fits K ss hv xs) := hft
  obtain ⟨z, f1, f2, f3⟩ := hft
  have hzle : z ≤ 1073741824 := by rw [← f2 0 hk1]; exact leftL_size HZ.out 0
  have hn3 : n3 = K := by rw [← I4.out.1.1, f1.1]
  have hmem : ∀ x ∈ xs, x.size = z := by
    intro x hx
    obtain ⟨i, hi, rfl⟩ := List.getElem_of_mem hx
    have := f1.2 i (by rw [← f1.1]; exact hi)
    simpa [row, List.getD, hi] using this
  have hjz : (jn xs).size ≤ 140737488355328 := by
    rw [jn_size xs hmem, f1.1]
    have : K * z ≤ 255 * 1073741824 := Nat.mul_le_mul (by omega) hzle
    omega
  have HC5 : Hid (∀ W, IsSc W a3 n3 q3 xs → Calls Tryz.prog 93 #[.slice a3 n3 q3, .string ⟨#[]⟩] W fun e w' => e = .returned (.string (jn xs)) ∧ Below W.heap.size W w') := show ∀ W, _ → _ from fun W hW => sjoin_any a3 n3 q3 xs W hW (by omega) (by omega) hjz
  have HC6 : Hid (∀ W, Calls Tryz.prog 92 #[.string (jn xs)] W fun e w' => e = .returned (.tuple #[.string (ttS (jn xs)), .int .i64 (ttE (jn xs))]) ∧ Below W.heap.size W w') := show ∀ W, _ from fun W => textof_any (jn xs) W hjz
  have HFN : Hid (∀ W, Below w.heap.size w W → JoinP w ⟨K, M, SH, st, sl⟩ ss hv (.returned (.tuple #[.string (ttS (jn xs)), .int .i64 (ttE (jn xs))])) W) := show ∀ W, _ → _ from fun W hW => JoinP.yes (by rw [HJE.out]; exact e2) (by show Fits ((K : Int).toNat) ss hv xs; rw [Int.toNat_natCast]; exact HFT.out) hW
  subst e2
  generalize ttS (jn xs) = TS at HC6 HFN
  generalize ttE (jn xs) = TE at HC6 HFN
  generalize jn xs = JX at HC5 HC6
  clear f1 f2 f3 hzle hmem hjz HR HJE HFT hn3
  go_wp2_with fail
  refine Calls.mono (HC5.out _ I4.out) ?_
  rintro e w5 ⟨rfl, hb⟩
  have X5 := show Hid (Below w.heap.size w w5) from below_step X4.out hb
  clear hb X4 I4 HC5
  go_wp2_with fail
  refine Calls.mono (HC6.out _) ?_
  rintro e w6 ⟨rfl, hb⟩
  have X6 := show Hid (Below w.heap.size w w6) from below_step X5.out hb
  clear hb X5 HC6
  go_wp2
  go_ret2
  exact HFN.out _ X6.out
end Go.Proofs.YtbmjcnmgignaoaaGreatDoor

/- What join, Read, Health and howMany return. -/
namespace Go.Proofs.YtbmjcnmgignaoaaGreatDoor
open Go.RowKit Vecm Opened Wirem Txt Frm Diskm Arym Volm Tab
open Cfm (Cf)
open Crcm (bys)
set_option linter.unusedVariables false

theorem own_isTb {w : World} {base n : Nat} {v : Value} {l : List Bool} (h : w.ownsRow base 4 1 v n (hbs l)) (hn : n ≤ maxLen) : ∃ a c, v = .slice a n c ∧ IsT w a n l := by
  have hl : l.length = n := by have := h.1; simp [hbs] at this; exact this
  rcases h.2 with ⟨rfl, hz⟩ | ⟨g, cap, cur, rfl, h1, h2, h3, h4, h5⟩
  · subst hz
    exact ⟨none, 0, rfl, hl, hn, fun h => by omega⟩
  · refine ⟨_, _, rfl, hl, hn, fun _ => ⟨g, 0, rfl, (Array.getElem?_eq_some_iff.1 h2).1, fun i hi => ?_⟩⟩
    rw [Nat.zero_add]
    exact (own_cell h hi (by simp [hbs, List.getD, show i < l.length by omega])).1
theorem own_isSn {w : World} {base n : Nat} {v : Value} {ss : List ByteArray} (h : w.ownsRow base 9 1 v n (strs ss)) (hn : n ≤ 1000) (hs : ∀ s ∈ ss, s.size ≤ 1073741824) : ∃ a c, v = .slice a n c ∧ IsS w a n ss := by
  have hl : ss.length = n := by have := h.1; simp [strs] at this; exact this
  subst hl
  obtain ⟨a, m, c, rfl, hS⟩ := own_isS w base v ss h (by omega) hs
  obtain rfl : ss.length = m := hS.1
  exact ⟨a, c, rfl, hS⟩
/-- What is joined, or that it is lost. -/
def JnV (c : Cf) (ss : List ByteArray) (hv : List Bool) (s : ByteArray) (er : Int) : Prop := ∃ s' er', JRes c ss hv s' er' ∧ (er' ≠ 0 → s = ⟨#[]⟩ ∧ er = 10) ∧ (er' = 0 → s = s' ∧ er = 0)
def VjoinP (w : World) (c : Cf) (ss : List ByteArray) (hv : List Bool) (e : Ending) (w' : World) : Prop := ∃ s er, e = .returned (.tuple #[.string s, .int .i64 er]) ∧ JnV c ss hv s er ∧ Below w.heap.size w w'

set_option maxRecDepth 100000 in
set_option maxHeartbeats 4000000 in
theorem vjoin_any {w : World} {pv pa : Nat} {fp : List Nat} {A : Ar} {c : Cf} {id seq : Int} (h : IsW w pv pa fp A c id seq) (ep : Int) {a b : Option Addr} {n m ca cb : Nat} {ss : List ByteArray} {hv : List Bool} (hS : IsS w a n ss) (hT : IsT w b m hv) (hz : ∀ i, (row ss i).size ≤ 1073741824) :
    Calls Tryz.prog 15 #[.pointer (some ⟨pv, 0, none⟩), .agg #[.int .i64 ep, .slice a n ca, .slice b m cb]] w (VjoinP w c ss hv) := by
  obtain ⟨V, hV⟩ : ∃ V, V = w.alloc (.cells #[.int .i64 ep, .slice a n ca, .slice b m cb] 42) := ⟨_, rfl⟩
  have HBV : Hid (Below w.heap.size w V) := show Below _ _ _ by rw [hV]; exact (Below.refl _ _).alloc (Nat.le_refl _) _
  have HR : Hid (Row V w.heap.size 42 #[.int .i64 ep, .slice a n ca, .slice b m cb]) := show Row _ _ _ _ by rw [hV]; exact Row.new _ _ _
  have HKC : Hid (∀ W, Below V.heap.size V W → Below V.heap.size V W ∧ W.cell? ⟨pv, 1, none⟩ = some (.int .i64 c.k) ∧ W.cell? ⟨pv, 2, none⟩ = some (.int .i64 c.m) ∧ W.cell? ⟨pv, 3, none⟩ = some (.int .i64 c.sh) ∧ W.cell? ⟨pv, 4, none⟩ = some (.int .i64 c.st) ∧ W.cell? ⟨pv, 5, none⟩ = some (.int .i64 c.sl) ∧ W.cell? ⟨w.heap.size, 1, none⟩ = some (.slice a n ca) ∧ W.cell? ⟨w.heap.size, 2, none⟩ = some (.slice b m cb)) := show ∀ W, _ → _ from fun W hW => by
    have r := (h.below (below_step HBV.out hW)).row
    have r2 := HR.out.kept (Fr.of_below (fp := []) hW) (by simp)
    exact ⟨hW, r.cell rfl, r.cell rfl, r.cell rfl, r.cell rfl, r.cell rfl, r2.cell rfl, r2.cell rfl⟩
  have CJ : Hid (∀ W, Below V.heap.size V W → Calls Tryz.prog 45 #[.agg (cfC c), .slice a n ca, .slice b m cb] W fun e w' => ∃ s er, e = .returned (.tuple #[.string s, .int .i64 er]) ∧ JRes c ss hv s er ∧ Below V.heap.size V w') := show ∀ W, _ → _ from fun W hW => by
    have hb := below_step HBV.out hW
    refine (join_any c.k c.m c.sh c.st c.sl a n ca ss b m cb hv W (IsS.below hS hb) (hT.below hb) hz).mono ?_
    rintro e w' ⟨s, er, rfl, h1, h2⟩
    exact ⟨s, er, rfl, h1, below_step hW h2⟩
  have HBD : Hid (Below V.heap.size V V.drew) := Below.drew (Below.refl _ _)
  have hva : w.alloc (.cells #[.int .i64 ep, .slice a n ca, .slice b m cb] 42) = V := hV.symm
  have HE : Hid (∀ s er w', JRes c ss hv s er → Below V.heap.size V w' → (er ≠ 0 → VjoinP w c ss hv (.returned (.tuple #[.string ⟨#[]⟩, .int .i64 10])) w') ∧ (er = 0 → VjoinP w c ss hv (.returned (.tuple #[.string s, .int .i64 0])) w')) := show ∀ s er w', _ → _ → _ from fun s er w' h1 h2 =>
    ⟨fun hne => ⟨_, _, rfl, ⟨s, er, h1, fun _ => ⟨rfl, rfl⟩, fun h0 => absurd h0 hne⟩, below_step HBV.out h2⟩, fun h0 => ⟨_, _, rfl, ⟨s, er, h1, fun hne => absurd h0 hne, fun _ => ⟨rfl, rfl⟩⟩, below_step HBV.out h2⟩⟩
  obtain ⟨k0, k1, k2, k3, k4, k5, k6, k7⟩ := HKC.out V (Below.refl _ _)
  obtain ⟨ck, cm, csh, cst, csl⟩ := c
  rw [cfC] at CJ
  dsimp only at CJ HKC k1 k2 k3 k4 k5
  clear h hS hT hz hV HR k0
  go_enter Tryz.func15, Tryz.ntmps15
  go_wp2
  go_region_held3 (fun W => Below V.heap.size V W ∧ W.cell? ⟨pv, 1, none⟩ = some (.int .i64 ck) ∧ W.cell? ⟨pv, 2, none⟩ = some (.int .i64 cm) ∧ W.cell? ⟨pv, 3, none⟩ = some (.int .i64 csh) ∧ W.cell? ⟨pv, 4, none⟩ = some (.int .i64 cst) ∧ W.cell? ⟨pv, 5, none⟩ = some (.int .i64 csl) ∧ W.cell? ⟨w.heap.size, 1, none⟩ = some (.slice a n ca) ∧ W.cell? ⟨w.heap.size, 2, none⟩ = some (.slice b m cb))
    (first | exact HKC.out _ HBD.out | exact HKC.out _ (Hid.out (by assumption)))
    ((go_at_call 45; refine Calls.mono (CJ.out _ HBD.out) ?_; rintro e w3 ⟨s, er, rfl, z1, z2⟩; have Z1 : Hid (JRes ⟨ck, cm, csh, cst, csl⟩ ss hv s er) := z1; have HB3 := show Hid (Below V.heap.size V w3) from z2; clear z1 z2))
  all_goals obtain ⟨e1, e2⟩ := HE.out s er w3 Z1.out HB3.out
  all_goals have E1 : Hid (er ≠ 0 → _) := e1
  all_goals have E2 : Hid (er = 0 → _) := e2
  all_goals clear e1 e2
  all_goals by_cases he : er = 0
  all_goals try (
    have F := show Hid (_) from E2.out he
    subst he
    clear E1 E2 HE
    go_wp2
    go_ret2
    exact F.out)
  all_goals (
    have F := show Hid (_) from E1.out he
    have hne : (er != 0) = true := by rw [bne_iff_ne]; exact he
    clear E1 E2 HE he
    go_wp2
    go_ret2
    exact F.out)

/-- The text of stripe n, or why none is told. -/
def RdV (A : Ar) (c : Cf) (id n : Int) (s : ByteArray) (er : Int) : Prop := (fdE A c id n ≠ 0 → s = ⟨#[]⟩ ∧ er = fdE A c id n) ∧ (fdE A c id n = 0 → JnV c (lkSs A c id n (dsN c)) (hvE (lkEs A c id n (dsN c)) (epN A c id n)) s er)
def VreadP (w : World) (A : Ar) (c : Cf) (id n : Int) (e : Ending) (w' : World) : Prop := ∃ s er, e = .returned (.tuple #[.string s, .int .i64 er]) ∧ RdV A c id n s er ∧ Below w.heap.size w w'
theorem lk_small {A : Ar} {c : Cf} {id n : Int} (hs : Slim A) (k : Nat) : ∀ s ∈ lkSs A c id n k, s.size ≤ 100000 := by
  intro s hm
  obtain ⟨d, _, rfl⟩ := List.mem_map.1 hm
  unfold lkS
  split
  · exact vbk_text hs _ _ _
  · exact Nat.zero_le _
theorem lrow_small {ss : List ByteArray} {N : Nat} (h : ∀ s ∈ ss, s.size ≤ N) (i : Nat) : (row ss i).size ≤ N := by
  by_cases hi : i < ss.length
  · have : row ss i = ss[i] := by simp [row, List.getD, hi]
    rw [this]; exact h _ (List.getElem_mem hi)
  · have : row ss i = ⟨#[]⟩ := by simp [row, List.getD, hi]; rfl
    rw [this]; exact Nat.zero_le _

set_option maxRecDepth 100000 in
set_option maxHeartbeats 4000000 in
theorem vread_any {w : World} {pv pa : Nat} {fp : List Nat} {A : Ar} {c : Cf} {id seq : Int} (h : IsW w pv pa fp A c id seq) (hs : Slim A) (hc : Fine c) (n : Int) (hn : n ≤ 9223372036854775807) :
    Calls Tryz.prog 4 #[.pointer (some ⟨pv, 0, none⟩), .int .i64 n] w (VreadP w A c id n) := by
  have C1 : Hid (_) := find_any h hs hc n hn
  have hD : dsN c ≤ 255 := by unfold dsN; have := hc.km; omega
  have H0 : Hid (IsW w pv pa fp A c id seq) := h
  have HJ : Hid (∀ W v1 v2, Below w.heap.size w W → W.ownsRow w.heap.size 9 1 v1 (dsN c) (strs (lkSs A c id n (dsN c))) → W.ownsRow w.heap.size 4 1 v2 (dsN c) (hbs (hvE (lkEs A c id n (dsN c)) (epN A c id n))) → ∃ a ca b cb, v1 = .slice a (dsN c) ca ∧ v2 = .slice b (dsN c) cb ∧ ∀ W', Below W.heap.size W W' → Calls Tryz.prog 15 #[.pointer (some ⟨pv, 0, none⟩), .agg #[.int .i64 (epN A c id n), .slice a (dsN c) ca, .slice b (dsN c) cb]] W' (VjoinP W' c (lkSs A c id n (dsN c)) (hvE (lkEs A c id n (dsN c)) (epN A c id n)))) := show ∀ W v1 v2, _ → _ → _ → _ from fun W v1 v2 hb h1 h2 => by
    have hz := lk_small (A := A) (c := c) (id := id) (n := n) hs (dsN c)
    obtain ⟨a, ca, rfl, hS⟩ := own_isSn h1 (by omega) (fun s hm => by have := hz s hm; omega)
    obtain ⟨b, cb, rfl, hT⟩ := own_isTb h2 (by unfold maxLen; omega)
    exact ⟨a, ca, b, cb, rfl, rfl, fun W' hW' => vjoin_any (h.below (below_step hb hW')) _ (IsS.below hS hW') (hT.below hW') (fun i => by have := lrow_small hz i; omega)⟩
  have HN : Hid (∀ w', Below w.heap.size w w' → fdE A c id n ≠ 0 → VreadP w A c id n (.returned (.tuple #[.string ⟨#[]⟩, .int .i64 (fdE A c id n)])) w') := show ∀ w', _ → _ → _ from fun w' hb hne => ⟨_, _, rfl, ⟨fun _ => ⟨rfl, rfl⟩, fun h0 => absurd h0 hne⟩, hb⟩
  have HY : Hid (∀ w' s er, Below w.heap.size w w' → fdE A c id n = 0 → JnV c (lkSs A c id n (dsN c)) (hvE (lkEs A c id n (dsN c)) (epN A c id n)) s er → VreadP w A c id n (.returned (.tuple #[.string s, .int .i64 er])) w') := show ∀ w' s er, _ → _ → _ → _ from fun w' s er hb h0 hj => ⟨_, _, rfl, ⟨fun hne => absurd h0 hne, fun _ => hj⟩, hb⟩
  unfold FindP at C1
  generalize fdE A c id n = E at C1 HN HY
  generalize epN A c id n = ep at C1 HJ HY
  generalize lkSs A c id n (dsN c) = ss at C1 HJ HY
  generalize hvE (lkEs A c id n (dsN c)) ep = hv at C1 HJ HY
  generalize dsN c = D at C1 HJ hD
  clear h hs hc
  go_enter Tryz.func4, Tryz.ntmps4
  go_wp2_with fail
  refine Calls.mono C1.out ?_
  rintro e w1 ⟨hb, (⟨hne, rfl⟩ | ⟨rfl, v1, v2, rfl, o1, o2⟩)⟩
  · have HB1 : Hid (Below w.heap.size w (w1.alloc (.cells cwz 42))) := hb.alloc hb.size _
    have HF := show Hid (_) from HN.out _ HB1.out hne
    have hnb : (E != 0) = true := by rw [bne_iff_ne]; exact hne
    clear hb hne C1 HJ HN HY
    unfold cwz at HF ⊢
    go_wp2
    go_ret2
    exact HF.out
  · have HB1 : Hid (Below w.heap.size w w1) := hb
    obtain ⟨a, ca, b, cb, rfl, rfl, hj⟩ := HJ.out w1 v1 v2 hb o1 o2
    have HR1 : Hid (Row (w1.alloc (.cells #[.int .i64 ep, .slice a D ca, .slice b D cb] 42)) w1.heap.size 42 #[.int .i64 ep, .slice a D ca, .slice b D cb]) := Row.new _ _ _
    have HBA : Hid (Below w1.heap.size w1 (w1.alloc (.cells #[.int .i64 ep, .slice a D ca, .slice b D cb] 42))) := (Below.refl _ _).alloc (Nat.le_refl _) _
    have C2 : Hid (_) := hj _ HBA.out
    clear hb o1 o2 hj C1 HJ HN
    go_wp2_with (refine wpList_load_row rfl 42 _ rfl w1.heap.size rfl 42 #[.int .i64 ep, .slice a D ca, .slice b D cb] (0, 0) _ HR1.out Tryz.underlying42 rfl (by kernel_rfl) ?_)
    refine Calls.mono C2.out ?_
    rintro e w2 ⟨s, er, rfl, h1, h2⟩
    have HF := show Hid (_) from HY.out w2 s er (below_step (below_step HB1.out HBA.out) h2) (by trivial) h1
    clear h1 h2 C2 HY
    go_wp2
    go_ret2
    exact HF.out
end Go.Proofs.YtbmjcnmgignaoaaGreatDoor

/- What slices.DeleteFunc returns at numbers for Mend's closure, told of the numbers that there are. -/
namespace Go.Proofs.YtbmjcnmgignaoaaGreatDoor
open Go.RowKit Opened Frm Diskm
set_option linter.unusedVariables false

theorem zget_mem {l : List Int} {k : Nat} (h : k < l.length) : l.getD k 0 ∈ l := by
  rw [show l.getD k 0 = l[k] by simp [List.getD, h]]; exact List.getElem_mem h

set_option maxRecDepth 100000 in
set_option maxHeartbeats 1000000 in
theorem mifirst_any (v : Value) (l : List Int) (p : Int → Bool) (base B : Nat) (w : World) (ho : w.ownsRow base 3 1 v l.length (zcs l)) (hf : ∀ W, Fr (blk v) w W → ∀ x ∈ l, Calls Tryz.prog 16 #[.int .i64 x, .pointer (some ⟨B, 0, none⟩)] W fun e w' => e = .returned (.bool (p x)) ∧ Below W.heap.size W w') :
    Calls Tryz.prog 46 #[v, .func (.func 16) #[] #[.pointer (some ⟨B, 0, none⟩)]] w (ZFirst l p w) := by
  obtain ⟨a, c, rfl, hc1, hc2, hw⟩ := own_zcs ho
  have HW : Hid (_) := hw
  have hsz : l.length ≤ 9223372036854775807 := by unfold maxLen at hc2; omega
  have HO : Hid (∀ W, Below w.heap.size w W → ∀ x ∈ l, Calls Tryz.prog 16 #[.int .i64 x, .pointer (some ⟨B, 0, none⟩)] W fun e w' => e = .returned (.bool (p x)) ∧ Below W.heap.size W w') := show ∀ W, _ → _ from fun W hW x hx => hf W (Fr.of_below hW) x hx
  obtain ⟨L, hL⟩ : ∃ L, L = l.length := ⟨_, rfl⟩
  have HL : Hid (L = l.length) := hL
  rw [← hL] at HW hsz ⊢
  clear hw hc1 hc2 hf ho hL
  go_enter Tryz.func46, Tryz.ntmps46
  go_wp2
  go_loopw [8] (fun i wr => ∃ k : Nat, k ≤ L ∧ i = .int .i64 (k : Int) ∧ Below w.heap.size w wr ∧ ∀ j, j < k → p (l.getD j 0) = false) (fun i _ => L - (RowKit.intOf i).toNat)
  case atStart => exact ⟨0, by omega, rfl, Below.refl _ _, fun j hj => by omega⟩
  case round =>
    obtain ⟨k, hk, rfl, hbel, hall⟩ := hrel
    have HA : Hid (∀ j, j < k → p (l.getD j 0) = false) := hall
    have HB : Hid (_) := hbel
    clear hall hbel
    by_cases hlt : k < L
    · obtain ⟨b, rfl, _, hb, hcell⟩ := HW.out (by omega)
      have hck : wr.cell? ⟨b, k, none⟩ = some (.int .i64 (l.getD k 0)) := by rw [HB.out.cell (by exact hb)]; exact hcell k (by omega)
      have HO1 := show Hid (_) from HO.out wr HB.out (l.getD k 0) (zget_mem (by have := HL.out; omega))
      clear hcell hb
      cases he : p (l.getD k 0) with
      | true =>
        rw [he] at HO1
        have HE : Hid (p (l.getD k 0) = true) := he
        generalize hV : l.getD k 0 = V at hck HO1
        clear he hV
        go_wp2_with fail
        refine Calls.mono HO1.out ?_
        rintro e w1 ⟨rfl, hb1⟩
        have HB1 : Hid (Below w.heap.size w w1) := HB.out.trans (hb1.mono HB.out.size)
        clear hb1
        go_wp2
        go_ret
        exact ⟨HB1.out, .inl ⟨k, by have := HL.out; omega, rfl, HE.out, HA.out⟩⟩
      | false =>
        rw [he] at HO1
        have HE : Hid (p (l.getD k 0) = false) := he
        generalize hV : l.getD k 0 = V at hck HO1
        clear he hV
        go_wp2_with fail
        refine Calls.mono HO1.out ?_
        rintro e w1 ⟨rfl, hb1⟩
        have HB1 : Hid (Below w.heap.size w w1) := HB.out.trans (hb1.mono HB.out.size)
        clear hb1
        go_wp2
        go_roundw
        case rel => exact ⟨k + 1, by omega, by go_num, HB1.out, fun j hj => if e : j = k then by rw [e]; exact HE.out else HA.out j (by omega)⟩
        case measure => simp [RowKit.intOf]; omega
    · go_wp2
      go_ret
      exact ⟨HB.out, .inr ⟨rfl, fun j hj => HA.out j (by have := HL.out; omega)⟩⟩

set_option maxRecDepth 100000 in
set_option maxHeartbeats 2000000 in
theorem midel_any (v : Value) (l : List Int) (p : Int → Bool) (base B : Nat) (w : World) (ho : w.ownsRow base 3 1 v l.length (zcs l)) (hl : l.length ≤ 1000000) (hf : ∀ W, Fr (blk v) w W → ∀ x ∈ l, Calls Tryz.prog 16 #[.int .i64 x, .pointer (some ⟨B, 0, none⟩)] W fun e w' => e = .returned (.bool (p x)) ∧ Below W.heap.size W w') :
    Calls Tryz.prog 17 #[v, .func (.func 16) #[] #[.pointer (some ⟨B, 0, none⟩)]] w (ZDel v l p base w) := by
  have HFI : Hid (Calls Tryz.prog 46 #[v, .func (.func 16) #[] #[.pointer (some ⟨B, 0, none⟩)]] w (ZFirst l p w)) := mifirst_any v l p base B w ho hf
  have HO : Hid (∀ W, Fr (blk v) w W → ∀ x ∈ l, Calls Tryz.prog 16 #[.int .i64 x, .pointer (some ⟨B, 0, none⟩)] W fun e w' => e = .returned (.bool (p x)) ∧ Below W.heap.size W w') := hf
  obtain ⟨a, c, hve, hc1, hc2, hw⟩ := own_zcs ho
  have HOW : Hid (w.ownsRow base 3 1 v l.length (zcs l)) := ho
  clear hw
  have HFA : Hid (∀ w', Below w.heap.size w w' → (∀ j, j < l.length → p (l.getD j 0) = false) → ZDel v l p base w (.returned v) w') := show ∀ w', _ → _ → _ from fun w' hb ha => ⟨v, rfl, by rw [dlt_all ha]; exact own_on ho hb, Fr.of_below hb, fun k hk => hk⟩
  clear ho hf
  subst hve
  go_enter Tryz.func17, Tryz.ntmps17
  go_wp2_with fail
  refine Calls.mono HFI.out ?_
  rintro e w1 ⟨hb1, ⟨k0, hk0, rfl, hke, hka⟩ | ⟨rfl, hka⟩⟩
  case inr =>
    have HE : Hid (ZDel (.slice a l.length c) l p base w (.returned (.slice a l.length c)) w1) := HFA.out w1 hb1 hka
    clear hb1 hka
    go_wp2
    go_ret
    exact HE.out
  obtain ⟨g, rfl⟩ : ∃ g, a = some ⟨g, 0, none⟩ := by
    rcases HOW.out.2 with ⟨e1, e2⟩ | ⟨g, cap, cur, e1, _⟩
    · omega
    · simp only [Value.slice.injEq] at e1
      exact ⟨g, e1.1⟩
  have h0 : dlt (l.take (k0 + 1)) p = l.take k0 := by rw [dlt_yes hk0 hke, dlt_take (by omega) hka]
  have HO1 : Hid (w1.ownsRow base 3 1 (.slice (some ⟨g, 0, none⟩) l.length c) l.length (zcs l)) := show World.ownsRow _ _ _ _ _ _ _ from own_on HOW.out hb1
  have HF1 : Hid (Fr [g] w w1) := Fr.of_below hb1
  have H0 : Hid (dlt (l.take (k0 + 1)) p = l.take k0) := h0
  have HLL : Hid (∀ j, j < l.length → (zcs l)[j]? = some (.int .i64 (l.getD j 0))) := show ∀ j, _ → _ from fun j hj => zcs_get hj
  have HYES : Hid (∀ k, k < l.length → p (l.getD k 0) = true → dlt (l.take (k + 1)) p = dlt (l.take k) p) := show ∀ k, _ → _ → _ from fun k h1 h2 => dlt_yes h1 h2
  have HNO : Hid (∀ k, k < l.length → p (l.getD k 0) = false → dlt (l.take (k + 1)) p = dlt (l.take k) p ++ [l.getD k 0]) := show ∀ k, _ → _ → _ from fun k h1 h2 => dlt_no h1 h2
  have HEND : Hid (dlt (l.take l.length) p = dlt l p) := show _ = _ by rw [List.take_length]
  have HWL : Hid ((zcs l).length = l.length) := zcs_length l
  obtain ⟨L, hL⟩ : ∃ L, L = l.length := ⟨_, rfl⟩
  rw [← hL] at HO1 HLL HEND HWL HYES HNO hk0 hc1 hl ⊢
  have HL : Hid (L = l.length) := hL
  have hcm : c ≤ 9223372036854775807 := by unfold maxLen at hc2; omega
  have hk1 : ((k0 : Int) == -1) = false := by rw [beq_eq_false_iff_ne]; omega
  clear hb1 hka hke h0 HFA HFI hL HOW hc2
  go_wp2
  go_loopw [5, 6] (fun i jj wr => ∃ (j : Nat) (ys : List Value), j ≤ L ∧ i = .int .i64 ((dlt (l.take j) p).length : Int) ∧ jj = .int .i64 (j : Int) ∧ wr.ownsRow base 3 1 (.slice (some ⟨g, 0, none⟩) L c) L ys ∧ ys.take (dlt (l.take j) p).length = zcs (dlt (l.take j) p) ∧ (∀ k, j ≤ k → k < L → ys[k]? = some (.int .i64 (l.getD k 0))) ∧ Fr [g] w wr ∧ (dlt (l.take j) p).length < j) (fun _ jj _ => L - (RowKit.intOf jj).toNat)
  case atStart => exact ⟨k0 + 1, zcs l, by omega, by rw [H0.out, List.length_take, ← HL.out, Nat.min_eq_left (by omega)], by go_num, HO1.out, by rw [H0.out, List.length_take, ← HL.out, Nat.min_eq_left (by omega), zcs, zcs, List.map_take], fun k h1 h2 => HLL.out k h2, HF1.out, by rw [H0.out, List.length_take]; omega⟩
  case round =>
    obtain ⟨j, ys, hj, rfl, rfl, hown, htk, hrest, hfr, hij⟩ := hrel
    have HOY : Hid (wr.ownsRow base 3 1 (.slice (some ⟨g, 0, none⟩) L c) L ys) := hown
    have HTK : Hid (_) := htk
    have HRS : Hid (∀ k, j ≤ k → k < L → ys[k]? = some (.int .i64 (l.getD k 0))) := hrest
    have HFR : Hid (_) := hfr
    have hyl : ys.length = L := by have := hown.1; omega
    have HYL : Hid (ys.length = L) := hyl
    obtain ⟨I, hI⟩ : ∃ I, I = (dlt (l.take j) p).length := ⟨_, rfl⟩
    have HIE : Hid (I = (dlt (l.take j) p).length) := hI
    rw [← hI] at HTK hij ⊢
    clear hown htk hrest hfr hyl hI
    by_cases hlt : j < L
    · have hcj : wr.cell? ⟨g, j, none⟩ = some (.int .i64 (l.getD j 0)) := (own_cell HOY.out hlt (HRS.out j (Nat.le_refl _) hlt)).1
      have HO2 := show Hid (_) from HO.out wr (by simpa [blk] using HFR.out) (l.getD j 0) (zget_mem (by have := HL.out; omega))
      cases he : p (l.getD j 0) with
      | true =>
        rw [he] at HO2
        have HE : Hid (dlt (l.take (j + 1)) p = dlt (l.take j) p) := HYES.out j hlt he
        generalize hV : l.getD j 0 = V at hcj HO2
        clear he hV
        go_wp2_with fail
        refine Calls.mono HO2.out ?_
        rintro e w2 ⟨rfl, hb2⟩
        have HF2 : Hid (Fr [g] w w2) := HFR.out.trans (Fr.of_below (fp := [g]) hb2) (Later.refl _ _)
        have HO3 : Hid (w2.ownsRow base 3 1 (.slice (some ⟨g, 0, none⟩) L c) L ys) := show World.ownsRow _ _ _ _ _ _ _ from own_on HOY.out hb2
        clear hb2
        go_wp2
        go_roundw
        case rel => exact ⟨j + 1, ys, by omega, by rw [HE.out, ← HIE.out], by go_num, HO3.out, by rw [HE.out, ← HIE.out]; exact HTK.out, fun k h1 h2 => HRS.out k (by omega) h2, HF2.out, by rw [HE.out, ← HIE.out]; omega⟩
        case measure => simp [RowKit.intOf]; omega
      | false =>
        rw [he] at HO2
        have HE : Hid (dlt (l.take (j + 1)) p = dlt (l.take j) p ++ [l.getD j 0]) := HNO.out j hlt he
        obtain ⟨x, hV⟩ : ∃ x, x = l.getD j 0 := ⟨_, rfl⟩
        have HV : Hid (x = l.getD j 0) := hV
        rw [← hV] at hcj HO2
        clear he hV
        have HEL : Hid ((dlt (l.take (j + 1)) p).length = I + 1) := show _ = _ by rw [HE.out, List.length_append, ← HIE.out]; rfl
        go_wp2_with fail
        refine Calls.mono HO2.out ?_
        rintro e w2 ⟨rfl, hb2⟩
        have HF2 : Hid (Fr [g] w w2) := HFR.out.trans (Fr.of_below (fp := [g]) hb2) (Later.refl _ _)
        have HO3 : Hid (w2.ownsRow base 3 1 (.slice (some ⟨g, 0, none⟩) L c) L ys) := show World.ownsRow _ _ _ _ _ _ _ from own_on HOY.out hb2
        obtain ⟨hs1, hs2⟩ := own_cell HO3.out (show I < L by omega) (List.getElem?_eq_getElem (show I < ys.length by have := HYL.out; omega))
        have HO4 : Hid ((w2.setCell ⟨g, I, none⟩ (.int .i64 x)).ownsRow base 3 1 (.slice (some ⟨g, 0, none⟩) L c) L (ys.set I (.int .i64 x))) := show World.ownsRow _ _ _ _ _ _ _ from own_set HO3.out (by omega) _
        have HF4 : Hid (Fr [g] w (w2.setCell ⟨g, I, none⟩ (.int .i64 x))) := HF2.out.setCell (.inl (by simp)) _
        clear hb2
        go_wp2
        go_roundw
        case rel => exact ⟨j + 1, ys.set I (.int .i64 x), by omega, by rw [HEL.out]; go_num, by go_num, HO4.out, by
          rw [HEL.out, HE.out, ← zcs_snoc, ← HTK.out, ← HV.out, List.take_add_one, List.getElem?_set_self (by have := HYL.out; omega), List.take_set_of_le (Nat.le_refl _)]
          rfl, fun k h1 h2 => by rw [List.getElem?_set_ne (by omega)]; exact HRS.out k (by omega) h2, HF4.out, by rw [HEL.out]; omega⟩
        case measure => simp [RowKit.intOf]; omega
    · obtain rfl : j = L := by omega
      rw [HEND.out] at HTK HIE
      have hcl : ∀ ty, (Builtin.clear_ #[47] ty #[.slice (some ⟨g, I, none⟩) (j - I) (c - I)]).run Tryz.prog wr = .ok (.tuple #[]) (wr.setCells g I (List.replicate (j - I) (.int .i64 0))) := fun ty =>
        Lib.run_clear_slice wr 47 3 ty (.int .i64 0) Tryz.underlying47 zero_int rfl rfl g I (j - I) (c - I) (by omega) (fun q hq => (own_isSome HOY.out (by omega)).1) (fun q hq => (own_isSome HOY.out (by omega)).2)
      have HOE := own_take (own_sets (List.replicate (j - I) (Value.int .i64 0)) I j wr ys HOY.out (by simp; omega)) (show I ≤ j by omega)
      have HOF : Hid ((wr.setCells g I (List.replicate (j - I) (.int .i64 0))).ownsRow base 3 1 (.slice (some ⟨g, 0, none⟩) I c) (dlt l p).length (zcs (dlt l p))) := show World.ownsRow _ _ _ _ _ _ _ by
        have e : (setL ys I (List.replicate (j - I) (Value.int .i64 0))).take I = zcs (dlt l p) := by
          rw [← HTK.out]
          apply List.ext_getElem?
          intro q
          rw [List.getElem?_take, List.getElem?_take]
          split
          · exact setL_out _ _ _ _ (by assumption)
          · rfl
        rw [e] at HOE
        rw [← HIE.out]
        exact HOE
      have HFE : Hid (Fr [g] w (wr.setCells g I (List.replicate (j - I) (.int .i64 0)))) := HFR.out.trans (fr_sets _ _ _) (Later.refl _ _)
      clear HOE
      go_wp2_with (simp only [hcl])
      go_ret
      exact ⟨_, rfl, HOF.out, by simpa [blk] using HFE.out, by simp [blk]⟩

end Go.Proofs.YtbmjcnmgignaoaaGreatDoor
