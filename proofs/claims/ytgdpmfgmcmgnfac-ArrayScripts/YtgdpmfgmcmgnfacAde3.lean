/- The document's array: Write. -/
import Derived.Test.YtgdpmfgmcmgnfacAde2
import Derived.Deep.RegionHeld3
namespace Go.Proofs.Ytgdpmfgmcmgnfac
open Go.RowKit Frm Diskm Opened Arym
set_option linter.unusedVariables false

theorem own_less {w : World} {base e z n c : Nat} {a : Option Addr} {xs : List Value} (h : w.ownsRow base e z (.slice a (n + 1) c) (n + 1) xs) : w.ownsRow base e z (.slice a n c) n (xs.take (n * z)) := by
  obtain ⟨h1, h2⟩ := h
  rcases h2 with ⟨_, e2⟩ | ⟨g, cap, cur, e1, h3, h4, h5, h6, h7, h8⟩
  · omega
  · simp only [Value.slice.injEq, true_and] at e1
    obtain ⟨rfl, rfl⟩ := e1
    have hz : n * z ≤ (n + 1) * z := Nat.mul_le_mul_right _ (by omega)
    refine ⟨by rw [List.length_take, h1]; omega, .inr ⟨g, c, cur, rfl, h3, h4, by omega, h6, h7, ?_⟩⟩
    rw [← h8, List.take_take, Nat.min_eq_left hz]
theorem own_some {w : World} {base e z n : Nat} {v : Value} {xs : List Value} (h : w.ownsRow base e z v (n + 1) xs) : ∃ b c, v = .slice (some ⟨b, 0, none⟩) (n + 1) c ∧ n + 1 ≤ c ∧ c ≤ maxLen := by
  rcases h.2 with ⟨_, e2⟩ | ⟨g, cap, cur, e1, h3, h4, h5, h6, h7, h8⟩
  · omega
  · exact ⟨g, cap, e1, h5, h6⟩
theorem dwc_less (l : List Wr) (q : Wr) : (dwc (l ++ [q])).take (l.length * 2) = dwc l := by
  have e : ∀ x : List Wr, (dwc x).length = x.length * 2 := by
    intro x; induction x with
    | nil => rfl
    | cons y x ih => simp [dwc] at ih ⊢; omega
  have e2 : dwc (l ++ [q]) = dwc l ++ dwc [q] := by simp [dwc]
  rw [e2, List.take_append_of_le_length (by rw [e]; omega), List.take_of_length_le (by rw [e]; omega)]
/-- The last write is taken back. -/
theorem isD_back {w1 : World} {p : Nat} {fp' : List Nat} {d : Dk} {q : Wr} (h : IsD w1 p fp' { d with wt := d.wt ++ [q] }) :
    ∃ b c, w1.cell? ⟨p, 2, none⟩ = some (.slice (some ⟨b, 0, none⟩) (d.wt.length + 1) c) ∧ w1.frozen? ⟨p, 2, none⟩ = false ∧ d.wt.length + 1 ≤ c ∧ c ≤ maxLen ∧ IsD (w1.setCell ⟨p, 2, none⟩ (.slice (some ⟨b, 0, none⟩) d.wt.length c)) p fp' d := by
  obtain ⟨g, gc, v, l, rfl, h⟩ := h
  have hw := h.wt
  rw [show ({ d with wt := d.wt ++ [q] } : Dk).wt = d.wt ++ [q] from rfl, List.length_append, List.length_singleton] at hw
  obtain ⟨b, c, rfl, hc1, hc2⟩ := own_some hw
  obtain ⟨a1, a2, a3⟩ := h.apart
  have hf : Fr [p] w1 (w1.setCell ⟨p, 2, none⟩ (.slice (some ⟨b, 0, none⟩) d.wt.length c)) := (Fr.refl [p] w1).setCell (.inl (by simp)) _
  refine ⟨b, c, h.row.cell rfl, h.row.frozen, hc1, hc2, g, gc, .slice (some ⟨b, 0, none⟩) d.wt.length c, l, rfl, Row.set h.row 2 (.slice (some ⟨b, 0, none⟩) d.wt.length c), own_kept h.secs hf (fun k hk hm => ?_), ?_, h.live, fun x hx => h.ok x (List.mem_append_left _ hx), h.sz, h.n⟩
  · simp only [List.mem_singleton] at hm
    simp [blk] at hk
    subst hm; exact a1 hk
  · have := own_less hw
    rw [dwc_less] at this
    exact own_kept this hf (fun k hk hm => by
      simp only [List.mem_singleton] at hm
      subst hm
      exact a2 hk)
theorem doesE_drew {w U : World} {pa : Nat} {fp : List Nat} {r : Value} {A' : Ar} {e : Ending} (h : DoesE w pa fp r A' e U) : DoesE w pa fp r A' e U.drew := by
  obtain ⟨h1, fp', h2, h3, h4⟩ := h
  exact ⟨h1, fp', h2.below (Below.drew (Below.refl _ _)), h3.drew, h4⟩
theorem set_same {A : Ar} {i : Nat} (h : i < A.ds.length) : ({ A with ds := A.ds.set i (A.ds.getD i nod) } : Ar) = A := by
  have : A.ds.set i (A.ds.getD i nod) = A.ds := by
    apply List.ext_getElem?
    intro j
    by_cases e : i = j
    · subst e; rw [List.getElem?_set_self h]; simp [List.getD, h]
    · rw [List.getElem?_set_ne e]
  rw [this]

theorem wrap_small (m : Nat) (h : m ≤ 1000000) : IntKind.i64.wrap (m : Int) = (m : Int) := by rw [IntKind.wrap_i64]; omega
/-- What the write on the disk leaves: the three ways on. -/
structure Wro (w : World) (pa p : Nat) (fp : List Nat) (A A1 : Ar) (m : Nat) (w1 : World) : Prop where
  left : w1.cell? ⟨pa, 1, none⟩ = some (.int .i64 (leftD A.fuse))
  leftf : w1.frozen? ⟨pa, 1, none⟩ = false
  go : A.fuse = none → DoesE w pa fp (.int .i64 0) A1 (.returned (.int .i64 0)) w1
  less : ∀ k, A.fuse = some (k + 1) → DoesE w pa fp (.int .i64 0) { A1 with fuse := some k } (.returned (.int .i64 0)) (w1.setCell ⟨pa, 1, none⟩ (.int .i64 (k : Int)))
  back : A.fuse = some 0 → ∃ b c, w1.cell? ⟨p, 2, none⟩ = some (.slice (some ⟨b, 0, none⟩) (m + 1) c) ∧ w1.frozen? ⟨p, 2, none⟩ = false ∧ m + 1 ≤ c ∧ c ≤ maxLen ∧
    (w1.setCell ⟨p, 2, none⟩ (.slice (some ⟨b, 0, none⟩) m c)).cell? ⟨pa, 2, none⟩ = some (.bool A.down) ∧ (w1.setCell ⟨p, 2, none⟩ (.slice (some ⟨b, 0, none⟩) m c)).frozen? ⟨pa, 2, none⟩ = false ∧
    DoesE w pa fp (.int .i64 9) { A with down := true } (.returned (.int .i64 9)) ((w1.setCell ⟨p, 2, none⟩ (.slice (some ⟨b, 0, none⟩) m c)).setCell ⟨pa, 2, none⟩ (.bool true))
theorem wro {w : World} {pa g gc : Nat} {l : List (Nat × Dk)} {fs : List (List Nat)} {A : Ar} (h : Da w pa g gc l fs A) {i p : Nat} {d : Dk} (hi : l[i]? = some (p, d)) (hd : d = A.ds.getD i nod) {n : Int} {s : ByteArray} (hc : chk d n s.size = 0) {r : Value} {e : Ending} {w1 : World} (hx : DoesD w p (fs.getD i []) r (wr d n s) e w1) :
    Wro w pa p (pa :: g :: fs.flatten) A { A with ds := A.ds.set i (wr d n s) } d.wt.length w1 := by
  have hil : i < l.length := (List.getElem?_eq_some_iff.1 hi).1
  have hil2 : i < A.ds.length := by rw [h.len]; exact hil
  have hmem : d ∈ A.ds := by rw [hd]; simp [List.getD, hil2]
  have htd : Tidy d := h.good _ hmem
  have hwe : wr d n s = { d with wt := d.wt ++ [⟨n.toNat, s⟩] } := if_pos hc
  obtain ⟨a1, a2, a3⟩ := h.apart
  have h1 : DoesE w pa (pa :: g :: fs.flatten) (.int .i64 0) { A with ds := A.ds.set i (wr d n s) } (.returned (.int .i64 0)) w1 := h.does hi (good_wr htd n s) hx
  have hrow : Row w1 pa 37 #[.slice (some ⟨g, 0, none⟩) l.length gc, .int .i64 (leftD A.fuse), .bool A.down] := h.row.kept hx.2.choose_spec.2.1 (a2 i)
  refine ⟨hrow.cell rfl, hrow.frozen, fun _ => h1, fun k hk => ?_, fun hk => ?_⟩
  · obtain ⟨_, fq, ⟨g', gc', l', fs', rfl, hD⟩, q2, q3⟩ := h1
    have hr := Row.set hD.row 1 (.int .i64 (k : Int))
    have hf : Fr [pa] w1 (w1.setCell ⟨pa, 1, none⟩ (.int .i64 (k : Int))) := (Fr.refl [pa] w1).setCell (.inl (by simp)) _
    exact DoesE.then q2 q3 ((hD.turn (A' := { A with ds := A.ds.set i (wr d n s), fuse := some k }) hf hr rfl (fun j hj => by cases hj; have := h.fu _ hk; omega)).doesTurn hf _)
  · obtain ⟨_, fp', q1, q2, q3⟩ := hx
    rw [hwe] at q1
    obtain ⟨b, c, k1, k2, k3, k4, k5⟩ := isD_back q1
    obtain ⟨W2, hW2⟩ : ∃ W, W = w1.setCell ⟨p, 2, none⟩ (.slice (some ⟨b, 0, none⟩) d.wt.length c) := ⟨_, rfl⟩
    rw [← hW2] at k5
    have hpm : p ∈ fs.getD i [] := (h.all.is i _ hi).mem
    have hf2 : Fr (fs.getD i []) w W2 := by rw [hW2]; exact q2.setCell (.inl hpm) _
    have hD2 : DoesE w pa (pa :: g :: fs.flatten) (.int .i64 9) { A with ds := A.ds.set i d } (.returned (.int .i64 9)) W2 := h.does hi htd (r := r) (e := .returned r) ⟨rfl, fp', k5, hf2, q3⟩
    rw [hd, set_same hil2] at hD2
    have hrow2 : Row W2 pa 37 #[.slice (some ⟨g, 0, none⟩) l.length gc, .int .i64 (leftD A.fuse), .bool A.down] := h.row.kept hf2 (a2 i)
    obtain ⟨_, fq, ⟨g', gc', l', fs', rfl, hDD⟩, z2, z3⟩ := hD2
    have hr := Row.set hDD.row 2 (.bool true)
    have hf : Fr [pa] W2 (W2.setCell ⟨pa, 2, none⟩ (.bool true)) := (Fr.refl [pa] W2).setCell (.inl (by simp)) _
    refine ⟨b, c, k1, k2, k3, k4, ?_, ?_, ?_⟩
    · rw [← hW2]; exact hrow2.cell rfl
    · rw [← hW2]; exact hrow2.frozen
    · rw [← hW2]
      exact DoesE.then z2 z3 ((hDD.turn (A' := { A with down := true }) hf hr rfl h.fu).doesTurn hf _)

set_option maxRecDepth 100000 in
set_option maxHeartbeats 1000000 in
theorem ewrite_any {w : World} {pa : Nat} {fp : List Nat} {A : Ar} (h : IsE w pa fp A) (d n : Int) (s : ByteArray) (hs : s.size ≤ 9223372036854775807) (hw : Few A 1000000) :
    Calls Try.prog 19 #[.pointer (some ⟨pa, 0, none⟩), .int .i64 d, .int .i64 n, .string s] w (DoesE w pa fp (.int .i64 (aWrE A d n s.size)) (aWr A d n s)) := by
  have HK : Hid (_) := echeck_any h d
  by_cases hd : A.down = true
  · have HS : Hid (DoesE w pa fp (.int .i64 9) A (.returned (.int .i64 9)) w) := DoesE.same h
    rw [aWrE, if_pos hd, aWr, if_pos hd]
    rw [show ckE A d = 9 from if_pos hd] at HK
    clear h hd hw
    go_enter Try.func19, Try.ntmps19
    go_wp2_with fail
    refine same HK.out ?_
    go_wp2
    go_ret
    exact HS.out
  rw [aWrE, if_neg hd, aWr, if_neg hd]
  by_cases hh : has A d = true
  · obtain ⟨i, rfl, hi⟩ := has_nat hh
    rw [show ckE A (i : Int) = 0 by rw [ckE, if_neg hd, oneE, if_pos hh]] at HK
    obtain ⟨g, gc, l, fs, rfl, h⟩ := h
    have hl := h.len
    obtain ⟨p, hp1, hp2, hp3⟩ := h.get (i := i) (by omega)
    have hmem : A.ds.getD i nod ∈ A.ds := by simp [List.getD, hi]
    have hc0 : w.cell? ⟨pa, 0, none⟩ = some (.slice (some ⟨g, 0, none⟩) l.length gc) := h.row.cell rfl
    have hpe : putE A (i : Int) n s.size = chk (A.ds.getD i nod) n s.size := by rw [putE, if_pos hh, dk, Int.toNat_natCast]
    have hdk : dk A (i : Int) = A.ds.getD i nod := by rw [dk, Int.toNat_natCast]
    rw [hpe, hdk, Int.toNat_natCast]
    obtain ⟨x, hx⟩ : ∃ x, x = A.ds.getD i nod := ⟨_, rfl⟩
    rw [← hx] at hp1 hp3 hmem ⊢
    have hdw := dwrite_any hp3 n s hs (hw _ hmem)
    have hil : i < l.length := by omega
    have hll : l.length ≤ 255 := h.n
    by_cases hz : chk x n s.size = 0
    · rw [if_pos hz, if_pos hz]
      have HA : Hid (Calls Try.prog 43 #[.pointer (some ⟨p, 0, none⟩), .int .i64 n, .string s] w fun e w1 => e = .returned (.int .i64 0) ∧ Wro w pa p (pa :: g :: fs.flatten) A { A with ds := A.ds.set i (wr x n s) } x.wt.length w1) := hdw.mono fun e w1 hq => ⟨by rw [hq.1, hz], wro h hp1 hx hz hq⟩
      have hmx : x.wt.length ≤ 1000000 := hw _ hmem
      obtain ⟨L, hL⟩ : ∃ L, L = l.length := ⟨_, rfl⟩
      rw [← hL] at hc0 hil hll
      obtain ⟨fp, hfp⟩ : ∃ fp, fp = pa :: g :: fs.flatten := ⟨_, rfl⟩
      obtain ⟨A1, hA1⟩ : ∃ A1, A1 = ({ A with ds := A.ds.set i (wr x n s) } : Ar) := ⟨_, rfl⟩
      obtain ⟨m, hm⟩ : ∃ m, m = x.wt.length := ⟨_, rfl⟩
      have hfb := h.fu
      rcases hfu : A.fuse with _ | _ | k
      · rw [if_neg (by simp), if_neg (by simp)]
        have HG : Hid (∀ w1, Wro w pa p fp A A1 m w1 → w1.cell? ⟨pa, 1, none⟩ = some (.int .i64 (-1)) ∧ Hid (DoesE w pa fp (.int .i64 0) A1 (.returned (.int .i64 0)) w1)) := show ∀ w1, _ → _ from fun w1 q => ⟨by rw [q.left, hfu]; rfl, q.go hfu⟩
        rw [show (⟨A.ds.set i (wr x n s), A.down, (none : Option Nat).map fun k => k - 1⟩ : Ar) = A1 by rw [hA1, hfu]; rfl]
        rw [← hfp, ← hA1, ← hm] at HA
        rw [← hfp]
        clear h hp1 hp3 hh hl hL hi hmem hz hx hd hw hdw hpe hdk hA1 hfp hm hfu hfb hmx
        go_enter Try.func19, Try.ntmps19
        go_wp2_with fail
        refine same HK.out ?_
        go_wp2_with fail
        refine Calls.mono HA.out ?_
        rintro e w1 ⟨rfl, hq⟩
        obtain ⟨c1, HD⟩ := HG.out w1 hq
        clear hq
        go_wp2
        go_ret
        exact HD.out
      · rw [if_pos rfl, if_pos rfl]
        have HG : Hid (∀ w1, Wro w pa p fp A A1 m w1 → w1.cell? ⟨pa, 1, none⟩ = some (.int .i64 0) ∧ ∃ b c, w1.cell? ⟨p, 2, none⟩ = some (.slice (some ⟨b, 0, none⟩) (m + 1) c) ∧ w1.frozen? ⟨p, 2, none⟩ = false ∧ m + 1 ≤ c ∧ c ≤ maxLen ∧
          (w1.setCell ⟨p, 2, none⟩ (.slice (some ⟨b, 0, none⟩) m c)).cell? ⟨pa, 2, none⟩ = some (.bool A.down) ∧ (w1.setCell ⟨p, 2, none⟩ (.slice (some ⟨b, 0, none⟩) m c)).frozen? ⟨pa, 2, none⟩ = false ∧
          Hid (DoesE w pa fp (.int .i64 9) { A with down := true } (.returned (.int .i64 9)) ((w1.setCell ⟨p, 2, none⟩ (.slice (some ⟨b, 0, none⟩) m c)).setCell ⟨pa, 2, none⟩ (.bool true)))) := show ∀ w1, _ → _ from fun w1 q => ⟨by rw [q.left, hfu]; rfl, q.back hfu⟩
        rw [show (⟨A.ds, true, some 0⟩ : Ar) = { A with down := true } by rw [← hfu]]
        rw [← hfp, ← hA1, ← hm] at HA
        rw [← hfp]
        obtain ⟨A2, hA2⟩ : ∃ A2, A2 = ({ A with down := true } : Ar) := ⟨_, rfl⟩
        rw [← hA2] at HG ⊢
        rw [← hm] at hmx
        clear h hp1 hp3 hh hl hL hi hmem hz hx hd hw hdw hpe hdk hA1 hfp hm hfu hfb hA2
        go_enter Try.func19, Try.ntmps19
        go_wp2_with fail
        refine same HK.out ?_
        go_wp2_with fail
        refine Calls.mono HA.out ?_
        rintro e w1 ⟨rfl, hq⟩
        obtain ⟨c1, b, c, c2, c3, c4, c5, c6, c7, HD⟩ := HG.out w1 hq
        have HFD : Hid (Fr [p] w1 w1.drew) := Fr.of_below (Below.drew (Below.refl _ _))
        obtain ⟨M, hM⟩ : ∃ M, M = m + 1 := ⟨_, rfl⟩
        rw [← hM] at c2 c4
        have hwm : IntKind.i64.wrap ((M : Int) - 1) = (m : Int) := by
          rw [show (M : Int) - 1 = (m : Int) by omega]
          exact wrap_small m hmx
        have hmc : m ≤ c := by omega
        have hcm : c ≤ 9223372036854775807 := by unfold maxLen at c5; omega
        have HDD : Hid (DoesE w pa fp (.int .i64 9) A2 (.returned (.int .i64 9)) ((w1.setCell ⟨p, 2, none⟩ (.slice (some ⟨b, 0, none⟩) m c)).setCell ⟨pa, 2, none⟩ (.bool true)).drew) := doesE_drew HD.out
        clear hq c5 hM
        go_wp2
        go_region_with (fail)
        all_goals
          go_wp2
          go_ret
          first | exact HD.out | exact HDD.out
      · rw [if_neg (by simp), if_neg (by simp)]
        obtain ⟨K, hK⟩ : ∃ K, K = k + 1 := ⟨_, rfl⟩
        have HG : Hid (∀ w1, Wro w pa p fp A A1 m w1 → w1.cell? ⟨pa, 1, none⟩ = some (.int .i64 (K : Int)) ∧ w1.frozen? ⟨pa, 1, none⟩ = false ∧ Hid (DoesE w pa fp (.int .i64 0) { A1 with fuse := some k } (.returned (.int .i64 0)) (w1.setCell ⟨pa, 1, none⟩ (.int .i64 (k : Int))))) := show ∀ w1, _ → _ from fun w1 q => ⟨by rw [q.left, hfu, hK]; rfl, q.leftf, q.less k hfu⟩
        rw [show (⟨A.ds.set i (wr x n s), A.down, (some (k + 1) : Option Nat).map fun k => k - 1⟩ : Ar) = { A1 with fuse := some k } by rw [hA1]; rfl]
        rw [← hfp, ← hA1, ← hm] at HA
        rw [← hfp]
        obtain ⟨A2, hA2⟩ : ∃ A2, A2 = ({ A1 with fuse := some k } : Ar) := ⟨_, rfl⟩
        rw [← hA2] at HG ⊢
        have hKb : K ≤ 9223372036854775807 := by have := hfb _ hfu; omega
        have hK1 : (0 : Int) < (K : Int) := by omega
        have hKk : (K : Int) - 1 = (k : Int) := by omega
        clear h hp1 hp3 hh hl hL hi hmem hz hx hd hw hdw hpe hdk hA1 hfp hm hfu hfb hA2 hK hmx
        go_enter Try.func19, Try.ntmps19
        go_wp2_with fail
        refine same HK.out ?_
        go_wp2_with fail
        refine Calls.mono HA.out ?_
        rintro e w1 ⟨rfl, hq⟩
        obtain ⟨c1, c2, HD⟩ := HG.out w1 hq
        clear hq
        go_wp2
        go_ret
        exact HD.out
    · rw [if_neg hz, if_neg hz]
      have hwe : wr x n s = x := if_neg hz
      rw [hwe] at hdw
      have htd : Tidy x := h.good _ hmem
      have HA : Hid (Calls Try.prog 43 #[.pointer (some ⟨p, 0, none⟩), .int .i64 n, .string s] w fun e w1 => e = .returned (.int .i64 (chk x n s.size)) ∧ Hid (DoesE w pa (pa :: g :: fs.flatten) (.int .i64 (chk x n s.size)) A (.returned (.int .i64 (chk x n s.size))) w1)) := hdw.mono fun e w1 hq => ⟨hq.1, by
        have := h.does hp1 htd (r' := .int .i64 (chk x n s.size)) hq
        rw [hx, set_same hi] at this
        rw [hx]
        exact this⟩
      obtain ⟨L, hL⟩ : ∃ L, L = l.length := ⟨_, rfl⟩
      rw [← hL] at hc0 hil hll
      obtain ⟨E, hE⟩ : ∃ E, E = chk x n s.size := ⟨_, rfl⟩
      rw [← hE] at HA hz ⊢
      have hne : (E == 0) = false := by simpa using hz
      clear h hp1 hp3 hh hl hL hi hmem hx hd hw hdw hpe hdk hz hwe htd hE
      go_enter Try.func19, Try.ntmps19
      go_wp2_with fail
      refine same HK.out ?_
      go_wp2_with fail
      refine Calls.mono HA.out ?_
      rintro e w1 ⟨rfl, HD⟩
      go_wp2
      go_ret
      exact HD.out
  · have HS : Hid (DoesE w pa fp (.int .i64 1) A (.returned (.int .i64 1)) w) := DoesE.same h
    rw [show putE A d n s.size = 1 from if_neg hh, if_neg (by decide), if_neg (by decide)]
    rw [show ckE A d = 1 by rw [ckE, if_neg hd, oneE, if_neg hh]] at HK
    clear h hh hd hw
    go_enter Try.func19, Try.ntmps19
    go_wp2_with fail
    refine same HK.out ?_
    go_wp2
    go_ret
    exact HS.out
end Go.Proofs.Ytgdpmfgmcmgnfac
