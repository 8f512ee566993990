/- What Write does. -/
import Derived.Test.YtbmjcnmgignaoaaGreatDoorJ10
import Derived.Deep.Slices
import Derived.Deep.Fields

namespace Go.Proofs.YtbmjcnmgignaoaaGreatDoor
open Go.RowKit Vecm Opened Wirem Txt Frm Diskm Arym Volm Wrm Intm Tab
open Blkm (Bk bk0 owE owB sealE sealS)
open Cfm (Cf)
open Crcm (bys)
set_option linter.unusedVariables false

/-- What a call does to a volume whose number may change. -/
def VdoQ (w : World) (pv pa : Nat) (fp : List Nat) (A' : Ar) (c : Cf) (id seq' : Int) (w' : World) : Prop := ∃ fp', IsW w' pv pa fp' A' c id seq' ∧ Fr (pv :: fp) w w' ∧ Later w fp fp'
theorem VdoQ.same {w : World} {pv pa : Nat} {fp : List Nat} {A : Ar} {c : Cf} {id seq : Int} (h : IsW w pv pa fp A c id seq) {w' : World} (hb : Below w.heap.size w w') : VdoQ w pv pa fp A c id seq w' := ⟨fp, h.below hb, Fr.of_below hb, Later.refl _ _⟩
theorem VdoQ.of {w w1 w' : World} {pv pa b : Nat} {fp : List Nat} {X : Ar × Int} {c : Cf} {id seq : Int} (hb : Below w.heap.size w w1) (hle : w.heap.size ≤ b) (h : WkP w1 pv pa b fp X c id seq w') : VdoQ w pv pa fp X.1 c id seq w' := by
  obtain ⟨fp', h1, h2, h3⟩ := VdoP.of hb hle h
  exact ⟨fp', h1, h2.mono (fun k hk => by simp [hk]), h3⟩
theorem IsW.next {w : World} {pv pa : Nat} {fp : List Nat} {A : Ar} {c : Cf} {id seq : Int} (h : IsW w pv pa fp A c id seq) (s' : Int) : IsW (w.setCell ⟨pv, 7, none⟩ (.int .i64 s')) pv pa fp A c id s' :=
  ⟨h.row.set 7 _, h.arr.kept ((Fr.refl [pv] w).setCell (.inl (by simp)) _) (fun k hk hm => by simp only [List.mem_singleton] at hm; subst hm; exact h.off hk), h.off⟩
theorem VdoQ.next {w w' : World} {pv pa : Nat} {fp : List Nat} {A : Ar} {c : Cf} {id seq : Int} (h : VdoQ w pv pa fp A c id seq w') (s' : Int) : VdoQ w pv pa fp A c id s' (w'.setCell ⟨pv, 7, none⟩ (.int .i64 s')) := by
  obtain ⟨fp', h1, h2, h3⟩ := h
  exact ⟨fp', h1.next s', h2.setCell (.inl (by simp)) _, h3⟩

/-- The error of the shards that Write puts, and they; the same of the intents. -/
def shE (A : Ar) (c : Cf) (id seq n : Int) (s : ByteArray) : Int := slE id (Cfm.stripeN c n) (seq + 1) (shX c s) (wrk A (dsN c))
def shL (A : Ar) (c : Cf) (id seq n : Int) (s : ByteArray) : List It := slL id (Cfm.stripeN c n) (seq + 1) (shX c s) (wrk A (dsN c))
def inE (A : Ar) (c : Cf) (id seq n : Int) (s : ByteArray) : Int := rcE c id ⟨seq, n, s⟩ (jnl A (dsN c) c.m)
def inL (A : Ar) (c : Cf) (id seq n : Int) (s : ByteArray) : List It := rcL c id ⟨seq, n, s⟩ (jnl A (dsN c) c.m)
/-- The array behind the intents, and behind all. -/
def wrY (A : Ar) (c : Cf) (id seq n : Int) (s : ByteArray) : Ar × Int := flu (pts (er1 (A, 0) (inE A c id seq n s)) (inL A c id seq n s))
def wrX (A : Ar) (c : Cf) (id seq n : Int) (s : ByteArray) : Ar × Int := flu (pts (wrY A c id seq n s) (shL A c id seq n s))
def wrV (A : Ar) (c : Cf) (id seq n : Int) (s : ByteArray) : Int × Ar × Int :=
  if vhas c n = false then (1, A, seq) else if splE c s ≠ 0 then (splE c s, A, seq) else if A.down = true then (9, A, seq)
  else if (((wrk A (dsN c)).length : Int) < c.k ∨ ((jnl A (dsN c) c.m).length : Int) = 0) then (10, A, seq)
  else if shE A c id seq n s ≠ 0 then (shE A c id seq n s, A, seq)
  else ((wrX A c id seq n s).2, (wrX A c id seq n s).1, if (wrX A c id seq n s).2 = 0 then seq + 1 else seq)
def VwriteP (w : World) (pv pa : Nat) (fp : List Nat) (A : Ar) (c : Cf) (id seq n : Int) (s : ByteArray) (e : Ending) (w' : World) : Prop :=
  e = .returned (.int .i64 (wrV A c id seq n s).1) ∧ VdoQ w pv pa fp (wrV A c id seq n s).2.1 c id (wrV A c id seq n s).2.2 w'
theorem VwriteP.is {w w' : World} {pv pa : Nat} {fp : List Nat} {A A' : Ar} {c : Cf} {id seq n er seq' : Int} {s : ByteArray} (h : wrV A c id seq n s = (er, A', seq')) (hd : VdoQ w pv pa fp A' c id seq' w') : VwriteP w pv pa fp A c id seq n s (.returned (.int .i64 er)) w' := by
  unfold VwriteP; rw [h]; exact ⟨rfl, hd⟩
theorem jnl_len (A : Ar) (N : Nat) (m : Int) : (jnl A N m).length ≤ N := Nat.le_trans (List.length_filter_le _ _) (wrk_len A N)
theorem mem_jnl {A : Ar} {N : Nat} {m d : Int} (h : d ∈ jnl A N m) : d ∈ wrk A N := (List.mem_filter.1 h).1
set_option maxRecDepth 100000 in
set_option maxHeartbeats 8000000 in
theorem vwrite_any {w : World} {pv pa : Nat} {fp : List Nat} {A : Ar} {c : Cf} {id seq : Int} (h : IsW w pv pa fp A c id seq) (hc : Fine c) (hid : id ≤ 9223372036854775807) (hs0 : 0 ≤ seq) (hs1 : seq < 1152921504606846976) (n : Int) (hn : n ≤ 9223372036854775807) (s : ByteArray) (hsz : s.size ≤ 140737488355328) (hw : FewN A 100000) :
    Calls Tryz.prog 10 #[.pointer (some ⟨pv, 0, none⟩), .int .i64 n, .string s] w (VwriteP w pv pa fp A c id seq n s) := by
  have hmf : ∀ (fn : Fn) (first cap : Array Value) (w : World), (Instr.makeFunc fn first cap).run Tryz.prog w = .ok (.func fn first cap) w := fun _ _ _ _ => rfl
  have hD : dsN c ≤ 255 := by unfold dsN; have := hc.km; omega
  have hwl := wrk_len A (dsN c)
  have hjl := jnl_len A (dsN c) c.m
  have hcap : splE c s = 0 → s.size ≤ 4096 := fun he => by
    have h1 := (fine_lay hc)
    obtain ⟨K, M, sh, e1, e2, e3, hl, e5, e6, e7⟩ := h1
    have h2 : (s.size : Int) ≤ capN c := by
      by_cases hh : (s.size : Int) ≤ capN c
      · exact hh
      · exfalso
        rw [splE, if_pos (Cfm.chE_yes hc.may), if_neg hh] at he
        cases he
    have h3 := hc.kd
    rw [e1, e3] at h3
    have h4 : ((K * sh : Nat) : Int) ≤ 4000 := by rw [Int.natCast_mul]; exact h3
    rw [e6] at h2
    omega
  have H0 : Hid (IsW w pv pa fp A c id seq) := h
  have CA : Hid (_) := vhas_any h n
  have CP : Hid (∀ W, Calls Tryz.prog 35 #[.agg (cfC c), .string s] W (TellsC W (splS c s) (splE c s))) := show ∀ W, _ from fun W => split_any c.k c.m c.sh c.st c.sl s W hsz
  have CD : Hid (∀ W, Below w.heap.size w W → Calls Tryz.prog 22 #[.pointer (some ⟨pa, 0, none⟩)] W fun e w' => e = .returned (.bool A.down) ∧ w' = W) := show ∀ W, _ → _ from fun W hW => adown_any (h.below hW).arr
  have CK : Hid (∀ W, Below w.heap.size w W → Calls Tryz.prog 18 #[.pointer (some ⟨pv, 0, none⟩)] W (ZsP W (wrk A (dsN c)))) := show ∀ W, _ → _ from fun W hW => working_any (h.below hW) hc
  have CJ : Hid (∀ W, Below w.heap.size w W → Calls Tryz.prog 38 #[.pointer (some ⟨pv, 0, none⟩)] W (ZsP W (jnl A (dsN c) c.m))) := show ∀ W, _ → _ from fun W hW => journal_any (h.below hW) hc
  have CH : Hid (∀ W g off len cap v base, splE c s = 0 → len = (splS c s).length → Below w.heap.size w W → IsS W (some ⟨g, off, none⟩) len (splS c s) → W.ownsRow base 3 1 v (wrk A (dsN c)).length (zcs (wrk A (dsN c))) → Calls Tryz.prog 36 #[.pointer (some ⟨pv, 0, none⟩), v, .int .i64 n, .int .i64 (seq + 1), .slice (some ⟨g, off, none⟩) len cap] W (SlP W (shE A c id seq n s) (shL A c id seq n s))) := show ∀ W g off len cap v base, _ → _ → _ → _ → _ → _ from fun W g off len cap v base he hlen hW hS ho => by
    refine shards_any (h.below hW) n (seq + 1) hn _ v base ho (by omega) (ps := splS c s) (len := len) (g := g) (off := off) (cap := cap) (fun W' hW' i hi => ?_) (fun d hdl => ?_) (fun d hdl => ?_)
    · obtain ⟨b', off', e', hl', hc'⟩ := hS.2.2.2 (by omega)
      cases e'
      exact (hW'.cell hl').trans (hc' i hi)
    · have h1 := mem_wrk.1 hdl
      have h2 := splS_len he
      unfold dsN at h1
      have := hc.k1
      have := hc.m1
      omega
    · have h1 := mem_wrk.1 hdl
      exact bkOk_so hc hid (by omega) (by omega)
  have CR : Hid (∀ W, Below w.heap.size w W → Calls Tryz.prog 19 #[.pointer (some ⟨pv, 0, none⟩)] W fun e w' => ∃ b, e = .returned (.tuple #[.func (.func 49) #[] #[.pointer (some ⟨b + 2, 0, none⟩), .pointer (some ⟨b, 0, none⟩)], .func (.func 53) #[] #[.pointer (some ⟨b + 2, 0, none⟩), .pointer (some ⟨b, 0, none⟩), .pointer (some ⟨b + 1, 0, none⟩)]]) ∧ W.heap.size ≤ b ∧ WrS w' pv pa b fp A c id seq 0 ∧ Below W.heap.size W w') := show ∀ W, _ → _ from fun W hW => writer_any (h.below hW)
  have hiw : splE c s = 0 → (Intm.wrS ⟨seq, n, s⟩).size ≤ 5000 := fun he => by
    have := hcap he
    by_cases hh : Intm.wrE ⟨seq, n, s⟩ = 0
    · have h1 := Intm.wrS_size (Intm.wr_fits hh).1
      rw [h1]; show s.size + 14 ≤ _; omega
    · have : Intm.wrS ⟨seq, n, s⟩ = ⟨#[]⟩ := if_neg hh
      rw [this]; exact Nat.zero_le _
  have CRC : Hid (∀ W v base, splE c s = 0 → Below w.heap.size w W → W.ownsRow base 3 1 v (jnl A (dsN c) c.m).length (zcs (jnl A (dsN c) c.m)) → Calls Tryz.prog 39 #[.pointer (some ⟨pv, 0, none⟩), v, .agg #[.int .i64 seq, .int .i64 n, .string s]] W (SlP W (inE A c id seq n s) (inL A c id seq n s))) := show ∀ W v base, _ → _ → _ → _ from fun W v base he hW ho => by
    refine records_any (h.below hW) ⟨seq, n, s⟩ ⟨by show seq ≤ _; omega, hn, hsz⟩ _ v base ho (by omega) (fun d hd => ?_) (by show seq ≤ _; omega)
    have h1 := mem_wrk.1 (mem_jnl hd)
    have h2 := hiw he
    have h3 : Cfm.slotN c seq ≤ 4000 := by
      have h4 := Int.tmod_lt_of_pos seq (show 0 < c.sl by have := hc.sl0; omega)
      have h5 := hc.sl1
      unfold Cfm.slotN Cfm.of
      split
      · split <;> omega
      · omega
    exact ⟨hid, by show d ≤ _; omega, by show Cfm.slotN c seq ≤ _; omega, by show seq ≤ _; omega, by show (Intm.wrS ⟨seq, n, s⟩).size ≤ _; omega⟩
  have HTI : Hid (splE c s = 0 → ∀ i ∈ inL A c id seq n s, i.text.size ≤ 1000000) := show _ → ∀ i ∈ _, _ from fun he i hi => by
    have := slL_small (N := 5000) (tx := fun _ => Intm.wrS ⟨seq, n, s⟩) (fun d => hiw he) i hi
    omega
  have HTS : Hid (∀ i ∈ shL A c id seq n s, i.text.size ≤ 1000000) := show ∀ i ∈ _, _ from fun i hi => by
    have := slL_small (N := 1024) (fun d => shX_size (s := s) hc d) i hi
    omega
  have HLI : Hid ((inL A c id seq n s).length ≤ 300) := show _ ≤ _ by
    show (slL _ _ _ _ _).length ≤ _
    rw [slL_length]; omega
  have HLS : Hid ((shL A c id seq n s).length ≤ 300) := show _ ≤ _ by
    show (slL _ _ _ _ _).length ≤ _
    rw [slL_length]; omega
  have G1 : Hid (vhas c n = false → ∀ w', Below w.heap.size w w' → VwriteP w pv pa fp A c id seq n s (.returned (.int .i64 1)) w') := show _ → ∀ w', _ → _ from fun h1 w' hb => VwriteP.is (by rw [wrV, if_pos h1]) (VdoQ.same h hb)
  have G2 : Hid (vhas c n = true → splE c s ≠ 0 → ∀ w', Below w.heap.size w w' → VwriteP w pv pa fp A c id seq n s (.returned (.int .i64 (splE c s))) w') := show _ → _ → ∀ w', _ → _ from fun h1 h2 w' hb => VwriteP.is (by rw [wrV, if_neg (by rw [h1]; simp), if_pos h2]) (VdoQ.same h hb)
  have G3 : Hid (vhas c n = true → splE c s = 0 → A.down = true → ∀ w', Below w.heap.size w w' → VwriteP w pv pa fp A c id seq n s (.returned (.int .i64 9)) w') := show _ → _ → _ → ∀ w', _ → _ from fun h1 h2 h3 w' hb => VwriteP.is (by rw [wrV, if_neg (by rw [h1]; simp), if_neg (fun hh => hh h2), if_pos h3]) (VdoQ.same h hb)
  have G4 : Hid (vhas c n = true → splE c s = 0 → A.down = false → (((wrk A (dsN c)).length : Int) < c.k ∨ ((jnl A (dsN c) c.m).length : Int) = 0) → ∀ w', Below w.heap.size w w' → VwriteP w pv pa fp A c id seq n s (.returned (.int .i64 10)) w') := show _ → _ → _ → _ → ∀ w', _ → _ from fun h1 h2 h3 h4 w' hb => VwriteP.is (by rw [wrV, if_neg (by rw [h1]; simp), if_neg (fun hh => hh h2), if_neg (by rw [h3]; simp), if_pos h4]) (VdoQ.same h hb)
  have G5 : Hid (vhas c n = true → splE c s = 0 → A.down = false → ¬ (((wrk A (dsN c)).length : Int) < c.k ∨ ((jnl A (dsN c) c.m).length : Int) = 0) → shE A c id seq n s ≠ 0 → ∀ w', Below w.heap.size w w' → VwriteP w pv pa fp A c id seq n s (.returned (.int .i64 (shE A c id seq n s))) w') := show _ → _ → _ → _ → _ → ∀ w', _ → _ from fun h1 h2 h3 h4 h5 w' hb => VwriteP.is (by rw [wrV, if_neg (by rw [h1]; simp), if_neg (fun hh => hh h2), if_neg (by rw [h3]; simp), if_neg h4, if_pos h5]) (VdoQ.same h hb)
  have G6 : Hid (vhas c n = true → splE c s = 0 → A.down = false → ¬ (((wrk A (dsN c)).length : Int) < c.k ∨ ((jnl A (dsN c) c.m).length : Int) = 0) → shE A c id seq n s = 0 → ∀ w', VdoQ w pv pa fp (wrX A c id seq n s).1 c id seq w' → ((wrX A c id seq n s).2 ≠ 0 → VwriteP w pv pa fp A c id seq n s (.returned (.int .i64 (wrX A c id seq n s).2)) w') ∧ ((wrX A c id seq n s).2 = 0 → VwriteP w pv pa fp A c id seq n s (.returned (.int .i64 0)) (w'.setCell ⟨pv, 7, none⟩ (.int .i64 (seq + 1))))) := show _ → _ → _ → _ → _ → ∀ w', _ → _ from fun h1 h2 h3 h4 h5 w' hd => by
    have e : wrV A c id seq n s = ((wrX A c id seq n s).2, (wrX A c id seq n s).1, if (wrX A c id seq n s).2 = 0 then seq + 1 else seq) := by
      rw [wrV, if_neg (by rw [h1]; simp), if_neg (fun hh => hh h2), if_neg (by rw [h3]; simp), if_neg h4, if_neg (fun hh => hh h5)]
    refine ⟨fun hx => VwriteP.is (by rw [e, if_neg hx]) hd, fun hx => VwriteP.is (by rw [e, if_pos hx, hx]) (hd.next _)⟩
  have HWF : Hid (FewN A 100000) := hw
  have HPOS : Hid (splE c s = 0 → 0 < (splS c s).length) := fun he => by have := splS_len he; have := hc.k1; have := hc.m1; omega
  have HSQ0 : Hid (0 ≤ seq) := hs0
  have HSQ1 : Hid (seq < 1152921504606846976) := hs1
  unfold wrX wrY at G6
  generalize VwriteP w pv pa fp A c id seq n s = P at G1 G2 G3 G4 G5 G6 ⊢
  generalize vhas c n = vh at CA G1 G2 G3 G4 G5 G6
  generalize splE c s = ES at CP CH CRC HTI G2 G3 G4 G5 G6 HPOS
  generalize splS c s = PS at CP CH HPOS
  generalize shE A c id seq n s = SE at CH G5 G6
  generalize shL A c id seq n s = SL at CH G6 HTS HLS
  generalize inE A c id seq n s = IE at CRC G6
  generalize inL A c id seq n s = IL at CRC G6 HTI HLI
  generalize wrk A (dsN c) = WL at CK CH G4 G5 G6
  generalize jnl A (dsN c) c.m = JL at CJ CRC G4 G5 G6
  have HXC : Hid (∀ W, Below w.heap.size w W → W.cell? ⟨pv, 0, none⟩ = some (.pointer (some ⟨pa, 0, none⟩)) ∧ W.cell? ⟨pv, 1, none⟩ = some (.int .i64 c.k) ∧ W.cell? ⟨pv, 2, none⟩ = some (.int .i64 c.m) ∧ W.cell? ⟨pv, 3, none⟩ = some (.int .i64 c.sh) ∧ W.cell? ⟨pv, 4, none⟩ = some (.int .i64 c.st) ∧ W.cell? ⟨pv, 5, none⟩ = some (.int .i64 c.sl) ∧ W.cell? ⟨pv, 7, none⟩ = some (.int .i64 seq)) := show ∀ W, _ → _ from fun W hW => by
    have hr := (H0.out.below hW).row
    exact ⟨hr.cell rfl, hr.cell rfl, hr.cell rfl, hr.cell rfl, hr.cell rfl, hr.cell rfl, hr.cell rfl⟩
  obtain ⟨ck, cm, csh, cst, csl⟩ := c
  rw [cfC] at CP
  dsimp only at CP HXC G4 G5 G6
  clear h hc hid hs0 hs1 hw hD hwl hjl hcap hiw hn hsz
  go_enter Tryz.func10, Tryz.ntmps10
  go_wp2_with fail
  refine Calls.mono CA.out ?_
  rintro e w1 ⟨rfl, hb⟩
  have B1 : Hid (Below w.heap.size w w1) := hb
  clear hb CA
  cases vh with
  | false =>
    have F : Hid (P (.returned (.int .i64 1)) w1) := G1.out rfl w1 B1.out
    clear G1 G2 G3 G4 G5 G6
    go_wp2
    exact F.out
  | true =>
  have HG2 := show Hid (_) from G2.out rfl
  have HG3 := show Hid (_) from G3.out rfl
  have HG4 := show Hid (_) from G4.out rfl
  have HG5 := show Hid (_) from G5.out rfl
  have HG6 := show Hid (_) from G6.out rfl
  clear G1 G2 G3 G4 G5 G6
  obtain ⟨x0, x1, x2, x3, x4, x5, x7⟩ := HXC.out w1 B1.out
  go_wp2_with fail
  refine Calls.mono (CP.out _) ?_
  rintro e w2 ⟨a1, n1, q1, rfl, i1, b1⟩
  have B2 : Hid (Below w.heap.size w w2) := show Below _ _ _ from below_step B1.out b1
  have IS2 : Hid (IsS w2 a1 n1 PS) := i1.1
  clear i1 b1 CP x0 x1 x2 x3 x4 x5 x7
  by_cases hE : ES = 0
  case neg =>
    have F : Hid (P (.returned (.int .i64 ES)) w2) := HG2.out hE w2 B2.out
    have hne : (ES != 0) = true := by rw [bne_iff_ne]; exact hE
    clear hE HG2 HG3 HG4 HG5 HG6 HTI HPOS CH CRC
    go_wp2
    exact F.out
  obtain ⟨g1, of1, ha1, -⟩ := IS2.out.2.2.2 (by have := IS2.out.1; have := HPOS.out hE; omega)
  subst ha1
  have HN1 : Hid (n1 = PS.length) := IS2.out.1.symm
  subst hE
  have HC := show Hid (_) from HXC.out w2 B2.out
  have C3 := show Hid (_) from CD.out w2 B2.out
  clear HG2 CD
  obtain ⟨x0, x1, x2, x3, x4, x5, x7⟩ := HC.out
  go_wp2_with fail
  refine Calls.mono C3.out ?_
  rintro e w3 ⟨rfl, rfl⟩
  cases hdn : A.down with
  | true =>
    have F : Hid (P (.returned (.int .i64 9)) w3) := HG3.out (by trivial) hdn w3 B2.out
    clear HG3 HG4 HG5 HG6 HTI HPOS CH CRC hdn
    go_wp2
    exact F.out
  | false =>
  have HG4' := show Hid (_) from HG4.out (by trivial) hdn
  have HG5' := show Hid (_) from HG5.out (by trivial) hdn
  have HG6' := show Hid (_) from HG6.out (by trivial) hdn
  clear HG3 HG4 HG5 HG6 hdn C3 x0 x1 x2 x3 x4 x5 x7 HC
  have C4 := show Hid (_) from CK.out w3 B2.out
  go_wp2_with fail
  refine Calls.mono C4.out ?_
  rintro e w4 ⟨v4, rfl, o4, b4⟩
  have B4 : Hid (Below w.heap.size w w4) := show Below _ _ _ from below_step B2.out b4
  have IS4 : Hid (IsS w4 (some ⟨g1, of1, none⟩) n1 PS) := IS2.out |> fun z => IsS.below z b4
  have C5 := show Hid (_) from CJ.out w4 B4.out
  obtain ⟨a4, c4, rfl, _, _⟩ := own_zcs o4
  have O4 : Hid (w4.ownsRow w3.heap.size 3 1 (.slice a4 WL.length c4) WL.length (zcs WL)) := o4
  clear o4 b4 C4 IS2 CK CJ
  go_wp2_with fail
  refine Calls.mono C5.out ?_
  rintro e w5 ⟨v5, rfl, o5, b5⟩
  have B5 : Hid (Below w.heap.size w w5) := show Below _ _ _ from below_step B4.out b5
  have IS5 : Hid (IsS w5 (some ⟨g1, of1, none⟩) n1 PS) := IS4.out |> fun z => IsS.below z b5
  obtain ⟨a5, c5, rfl, _, _⟩ := own_zcs o5
  have O5 : Hid (w5.ownsRow w4.heap.size 3 1 (.slice a5 JL.length c5) JL.length (zcs JL)) := o5
  have P4 : Hid (w5.ownsRow w3.heap.size 3 1 (.slice a4 WL.length c4) WL.length (zcs WL)) := own_on O4.out b5
  have HC := show Hid (_) from HXC.out w5 B5.out
  clear o5 b5 C5 IS4 O4
  generalize WL.length = NW at *
  generalize JL.length = NJ at *
  have hca : ((NW : Int) < ck ∨ (NJ : Int) = 0) ∨ (¬ (NW : Int) < ck ∧ ¬ (NJ : Int) = 0) := by omega
  obtain ⟨x0, x1, x2, x3, x4, x5, x7⟩ := HC.out
  rcases hca with hca | ⟨hn1, hn2⟩
  · have F : Hid (P (.returned (.int .i64 10)) w5) := HG4'.out hca w5 B5.out
    by_cases hlt : (NW : Int) < ck
    · have hd1 : decide ((NW : Int) < ck) = true := decide_eq_true hlt
      clear HG4' HG5' HG6' HTI HPOS CH CRC hca hlt
      go_wp2
      exact F.out
    · have hd1 : decide ((NW : Int) < ck) = false := decide_eq_false hlt
      obtain rfl : NJ = 0 := by omega
      clear HG4' HG5' HG6' HTI HPOS CH CRC hca hlt
      go_wp2
      exact F.out
  have hd1 : decide ((NW : Int) < ck) = false := decide_eq_false hn1
  have hd2 : ((NJ : Int) == 0) = false := by rw [beq_eq_false_iff_ne]; exact hn2
  have HG5 := show Hid (_) from HG5'.out (fun h => h.elim hn1 hn2)
  have HG6 := show Hid (_) from HG6'.out (fun h => h.elim hn1 hn2)
  have C6 := show Hid (_) from CH.out w5 g1 of1 n1 q1 _ _ (by trivial) HN1.out B5.out IS5.out P4.out
  have hwr : IntKind.i64.wrap (seq + 1) = seq + 1 := wrap_i64 (by have := HSQ0.out; omega) (by have := HSQ1.out; omega)
  clear HG4' HG5' HG6' HPOS CH hn1 hn2 IS5 P4
  go_wp2_with fail
  refine Calls.mono C6.out ?_
  intro e w6 z6
  rcases z6 with ⟨hb6, ⟨rfl, v6, rfl, o6⟩ | ⟨hne, rfl⟩⟩
  case inr =>
    have F : Hid (P (.returned (.int .i64 SE)) w6) := HG5.out hne w6 (below_step B5.out hb6)
    have hnb : (SE != 0) = true := by rw [bne_iff_ne]; exact hne
    clear HG5 HG6 HTI CRC C6 hne x0 x1 x2 x3 x4 x5 x7
    go_wp2
    exact F.out
  have HG6' := show Hid (_) from HG6.out (by trivial)
  have B6 : Hid (Below w.heap.size w w6) := show Below _ _ _ from below_step B5.out hb6
  have O6 : Hid (w6.ownsRow w5.heap.size 85 3 v6 SL.length (vls SL)) := o6
  have HK6 : Hid (∀ k ∈ blk v6, w5.heap.size ≤ k ∧ k < w6.heap.size) := show ∀ k ∈ _, _ from fun k hk => ⟨own_base o6 k hk, own_inn o6 k hk⟩
  have P5 : Hid (w6.ownsRow w4.heap.size 3 1 (.slice a5 NJ c5) NJ (zcs JL)) := own_on O5.out hb6
  have C7 := show Hid (_) from CR.out w6 B6.out
  have hv6 : ∃ a6 n6 c6, v6 = .slice a6 n6 c6 := by
    rcases o6.2 with ⟨rfl, _⟩ | ⟨g, cap, cur, rfl, _⟩ <;> exact ⟨_, _, _, rfl⟩
  obtain ⟨a6, n6, c6, rfl⟩ := hv6
  clear HG5 HG6 C6 hb6 o6 O5 CR hd1 hd2 x0 x1 x2 x3 x4 x5 x7 hwr HC
  go_wp2_with fail
  refine Calls.mono C7.out ?_
  rintro e w7 ⟨b, rfl, hb7, hs7, b7⟩
  have B7 : Hid (Below w.heap.size w w7) := show Below _ _ _ from below_step B6.out b7
  have B67 : Hid (Below w6.heap.size w6 w7) := b7
  have HB7 : Hid (w6.heap.size ≤ b) := hb7
  have HS7 : Hid (WrS w7 pv pa b fp A ⟨ck, cm, csh, cst, csl⟩ id seq 0) := hs7
  have C8 := show Hid (_) from CRC.out w7 _ _ (by trivial) B7.out (own_on P5.out b7)
  obtain ⟨x0, x1, x2, x3, x4, x5, x7⟩ := HXC.out w7 B7.out
  clear hb7 hs7 b7 C7 CRC P5
  go_wp2_with fail
  refine Calls.mono C8.out ?_
  intro e w8 z8
  obtain ⟨v8, rfl⟩ := slp_form z8
  have B78 : Hid (Below w7.heap.size w7 w8) := z8.1
  have B8 : Hid (Below w.heap.size w w8) := show Below _ _ _ from below_step B7.out z8.1
  have C9 := show Hid (_) from put_slp (HS7.out.below z8.1) z8 (by have := HLI.out; omega) (HTI.out (by trivial)) (fewN_mono HWF.out (by omega))
  have HFY : Hid (FewN (flu (pts (er1 (A, 0) IE) IL)).1 500000) := show FewN _ _ from fewN_mono (fewN_flu (fewN_pts IL (x := er1 (A, 0) IE) HWF.out)) (by have := HLI.out; omega)
  generalize pts (er1 (A, 0) IE) IL = X at C9 HFY HG6'
  clear z8 C8 HS7 x0 x1 x2 x3 x4 x5 x7
  go_wp2_with fail
  refine Calls.mono C9.out ?_
  rintro e w9 ⟨rfl, fp9, k1, k2, k3⟩
  have C10 := show Hid (_) from wflush_any k1
  have K2 : Hid (Fr ((b + 1) :: fp) w8 w9) := k2
  have K3 : Hid (Later w8 fp fp9) := k3
  have hfx : flu (X.1, X.2) = flu X := rfl
  rw [hfx] at C10
  generalize flu X = Y at C10 HFY HG6'
  clear k1 k2 k3 C9 hfx
  go_wp2_with fail
  refine Calls.mono C10.out ?_
  rintro e w10 ⟨rfl, k10⟩
  obtain ⟨fp10, m1, m2, m3⟩ := WkP.then K2.out K3.out k10
  have C11 := show Hid (_) from wput_any m1 0 SL _ (own_kept (own_on O6.out (below_step B67.out B78.out)) m2 (fun k hk hm => by
    have h1 := HK6.out k hk
    have h2 := HB7.out
    rcases List.mem_cons.1 hm with rfl | hm
    · omega
    · have h3 := H0.out.arr.inn k hm
      have h4 := B5.out.size
      omega)) (by have := HLS.out; omega) HTS.out HFY.out
  have M2 : Hid (Fr ((b + 1) :: fp) w8 w10) := m2
  have M3 : Hid (Later w8 fp fp10) := m3
  have hey : er1 (Y.1, Y.2) 0 = Y := er1_zero Y
  rw [hey] at C11
  generalize pts Y SL = Z at C11 HG6'
  clear k10 m1 m2 m3 hey C10 K2 K3 HK6 O6 HFY HTI HTS
  go_wp2_with fail
  refine Calls.mono C11.out ?_
  rintro e w11 ⟨rfl, k11⟩
  obtain ⟨fp11, q1', q2', q3'⟩ := WkP.then M2.out M3.out k11
  have C12 := show Hid (_) from wflush_any q1'
  have Q2 : Hid (Fr ((b + 1) :: fp) w8 w11) := q2'
  have Q3 : Hid (Later w8 fp fp11) := q3'
  have hfz : flu (Z.1, Z.2) = flu Z := rfl
  rw [hfz] at C12
  generalize flu Z = U at C12 HG6'
  clear k11 q1' q2' q3' hfz C11 M2 M3
  go_wp2_with fail
  refine Calls.mono C12.out ?_
  rintro e w12 ⟨rfl, k12⟩
  have kall := WkP.then Q2.out Q3.out k12
  have HV := VdoQ.of B8.out (by have := HB7.out; have := B6.out.size; omega) kall
  obtain ⟨g1', g2'⟩ := HG6'.out w12 HV
  have GA : Hid (U.2 ≠ 0 → P (.returned (.int .i64 U.2)) w12) := g1'
  have GB : Hid (U.2 = 0 → P (.returned (.int .i64 0)) (w12.setCell ⟨pv, 7, none⟩ (.int .i64 (seq + 1)))) := g2'
  obtain ⟨fp12, hv1, _, _⟩ := HV
  have y7 : w12.cell? ⟨pv, 7, none⟩ = some (.int .i64 seq) := hv1.row.cell rfl
  have z7 : w12.frozen? ⟨pv, 7, none⟩ = false := hv1.row.frozen
  have hwr : IntKind.i64.wrap (seq + 1) = seq + 1 := wrap_i64 (by have := HSQ0.out; omega) (by have := HSQ1.out; omega)
  clear g1' g2' hv1 kall k12 HG6' C12 Q2 Q3
  generalize U.2 = ue at GA GB
  by_cases hu : ue = 0
  · have F : Hid (P (.returned (.int .i64 0)) (w12.setCell ⟨pv, 7, none⟩ (.int .i64 (seq + 1)))) := GB.out hu
    subst hu
    clear GA GB
    go_wp2
    exact F.out
  · have F : Hid (P (.returned (.int .i64 ue)) w12) := GA.out hu
    have hub : (ue != 0) = true := by rw [bne_iff_ne]; exact hu
    clear GA GB hu
    go_wp2
    exact F.out
end Go.Proofs.YtbmjcnmgignaoaaGreatDoor

/- What slices.Max and latest return. -/
namespace Go.Proofs.YtbmjcnmgignaoaaGreatDoor
open Go.RowKit Vecm Opened Wirem Txt Frm Diskm Arym Volm Wrm Intm Tab
open Blkm (Bk bk0 owE owB sealE sealS)
open Cfm (Cf)
open Crcm (bys)
set_option linter.unusedVariables false

/-- The greatest of the first k numbers, and of the first. -/
def zmx (l : List Int) : Nat → Int
  | 0 => l.getD 0 0
  | k + 1 => max (zmx l k) (l.getD k 0)
theorem zmx_one (l : List Int) : zmx l 1 = l.getD 0 0 := by
  show max (zmx l 0) (l.getD 0 0) = _
  rw [zmx]; simp

set_option maxRecDepth 100000 in
set_option maxHeartbeats 4000000 in
theorem zmax_any {w : World} {base : Nat} {v : Value} {l : List Int} (ho : w.ownsRow base 3 1 v l.length (zcs l)) (h0 : 0 < l.length) (hml : l.length ≤ 1000000) :
    Calls Tryz.prog 66 #[v] w fun e w' => e = .returned (.int .i64 (zmx l l.length)) ∧ w' = w := by
  obtain ⟨a, c, rfl, hc1, hc2, hw⟩ := own_zcs ho
  obtain ⟨g, rfl, _, _, hcc⟩ := hw h0
  have HCC : Hid (∀ i, i < l.length → w.cell? ⟨g, i, none⟩ = some (.int .i64 (l.getD i 0))) := hcc
  have HZ1 : Hid (zmx l 1 = l.getD 0 0) := zmx_one l
  have HZS : Hid (∀ k, zmx l (k + 1) = max (zmx l k) (l.getD k 0)) := fun k => rfl
  have q0 := hcc 0 h0
  generalize l.length = L at *
  clear ho hw hcc
  have hd : decide ((L : Int) < 1) = false := decide_eq_false (by omega)
  go_enter Tryz.func66, Tryz.ntmps66
  go_wp2
  go_loop [3, 4] (fun m i => ∃ k : Nat, 1 ≤ k ∧ k ≤ L ∧ i = .int .i64 (k : Int) ∧ m = .int .i64 (zmx l k)) (fun _ i => L - (RowKit.intOf i).toNat)
  case atStart => exact ⟨1, by omega, by omega, rfl, by rw [HZ1.out]; simp⟩
  case round =>
    obtain ⟨k, hk1, hk, rfl, rfl⟩ := hrel
    by_cases hlt : k < L
    case neg =>
      obtain rfl : k = L := by omega
      go_wp2
      go_ret
      exact ⟨rfl, rfl⟩
    have qk := HCC.out k hlt
    have HE : Hid (_ = _) := HZS.out k
    generalize l.getD k 0 = x at qk HE
    generalize zmx l k = y at HE ⊢
    go_wp2
    go_round
    case rel => exact ⟨k + 1, by omega, by omega, by go_num, by rw [HE.out]⟩
    case measure => simp [RowKit.intOf]; omega

/-- The greatest epoch of the shards of the first k stripes. -/
def latV (A : Ar) (c : Cf) (id : Int) : Nat → Int
  | 0 => -1
  | k + 1 => max (latV A c id k) (zmx (lkEs A c id (k : Int) (dsN c)) (dsN c))

set_option maxRecDepth 100000 in
set_option maxHeartbeats 4000000 in
theorem latest_any {w : World} {pv pa : Nat} {fp : List Nat} {A : Ar} {c : Cf} {id seq : Int} (h : IsW w pv pa fp A c id seq) (hs : Slim A) (hc : Fine c) :
    Calls Tryz.prog 29 #[.pointer (some ⟨pv, 0, none⟩)] w fun e w' => e = .returned (.int .i64 (latV A c id c.st.toNat)) ∧ Below w.heap.size w w' := by
  have hD : dsN c ≤ 255 := by unfold dsN; have := hc.km; omega
  have hD1 : 0 < dsN c := by unfold dsN; have := hc.k1; have := hc.m1; omega
  have CL : Hid (∀ W (n : Nat), Below w.heap.size w W → n ≤ 1000 → Calls Tryz.prog 43 #[.pointer (some ⟨pv, 0, none⟩), .int .i64 (n : Int)] W fun e w' => ∃ v1 v2, e = .returned (.tuple #[v1, v2]) ∧ w'.ownsRow W.heap.size 3 1 v2 (lkEs A c id (n : Int) (dsN c)).length (zcs (lkEs A c id (n : Int) (dsN c))) ∧ Below w.heap.size w w') := show ∀ W (n : Nat), _ → _ → _ from fun W n hW hn =>
    (look_any (h.below hW) hs hc (n : Int) (by omega)).mono fun e w' ⟨v1, v2, h1, _, h2, h3⟩ => ⟨v1, v2, h1, by rw [lkEs_length]; exact h2, below_step hW h3⟩
  have HLN : Hid (∀ n : Int, 0 < (lkEs A c id n (dsN c)).length ∧ (lkEs A c id n (dsN c)).length ≤ 1000000) := show ∀ n : Int, _ from fun n => by rw [lkEs_length]; omega
  have HS : Hid (∀ k : Nat, latV A c id (k + 1) = max (latV A c id k) (zmx (lkEs A c id (k : Int) (dsN c)) (lkEs A c id (k : Int) (dsN c)).length)) := show ∀ k : Nat, _ from fun k => by rw [lkEs_length]; rfl
  have x4 : w.cell? ⟨pv, 4, none⟩ = some (.int .i64 c.st) := h.row.cell rfl
  obtain ⟨S, hS⟩ := Int.eq_ofNat_of_zero_le (show 0 ≤ c.st by have := hc.st0; omega)
  have hS1 : S ≤ 1000 := by have := hc.st1; omega
  rw [hS] at x4 ⊢
  rw [Int.toNat_natCast]
  have H0V : Hid (latV A c id 0 = -1) := rfl
  generalize latV A c id = lv at HS H0V ⊢
  clear h hs hc hS
  go_enter Tryz.func29, Tryz.ntmps29
  go_wp2
  go_loopw [3, 12] (fun m i wr => ∃ k : Nat, k ≤ S ∧ i = .int .i64 (k : Int) ∧ m = .int .i64 (lv k) ∧ Below w.heap.size w wr) (fun _ i _ => S - (RowKit.intOf i).toNat)
  case atStart => exact ⟨0, by omega, rfl, by rw [H0V.out], Below.refl _ _⟩
  case round =>
    obtain ⟨k, hk, rfl, rfl, hbel⟩ := hrel
    have BW : Hid (Below w.heap.size w wr) := hbel
    clear hbel
    by_cases hlt : k < S
    case neg =>
      obtain rfl : k = S := by omega
      go_wp2
      go_ret
      exact ⟨rfl, BW.out⟩
    have C1 := show Hid (_) from CL.out wr k BW.out (by omega)
    have HSk := show Hid (_ = _) from HS.out k
    obtain ⟨hl0, hl1⟩ := HLN.out (k : Int)
    generalize lkEs A c id (k : Int) (dsN c) = l at C1 HSk hl0 hl1
    go_wp2_with fail
    refine Calls.mono C1.out ?_
    rintro e w1 ⟨v1, v2, rfl, o2, b2⟩
    have B2 : Hid (Below w.heap.size w w1) := b2
    have C2 := show Hid (_) from zmax_any o2 hl0 hl1
    clear o2 b2 C1
    generalize zmx l l.length = z at C2 HSk
    go_wp2_with fail
    refine Calls.mono C2.out ?_
    rintro e w2 ⟨rfl, rfl⟩
    go_wp2
    go_roundw
    case rel => exact ⟨k + 1, by omega, by go_num, by rw [HSk.out], B2.out⟩
    case measure => simp [RowKit.intOf]; omega
end Go.Proofs.YtbmjcnmgignaoaaGreatDoor

/- What isToRedo returns. -/
namespace Go.Proofs.YtbmjcnmgignaoaaGreatDoor
open Go.RowKit Vecm Opened Wirem Txt Frm Diskm Arym Volm Wrm Intm Tab
open Blkm (Bk bk0 owE owB sealE sealS)
open Cfm (Cf)
open Crcm (bys)
set_option linter.unusedVariables false

/-- One of the first k disks works and lacks the epoch x; one of all has a later one. -/
def lckB (A : Ar) (l : List Int) (x : Int) : Nat → Bool
  | 0 => false
  | k + 1 => lckB A l x k || (aAl A (k : Int) && (l.getD k 0 != x))
def ltrB (l : List Int) (x : Int) : Nat → Bool
  | 0 => false
  | k + 1 => ltrB l x k || decide (x < l.getD k 0)
def itrB (A : Ar) (c : Cf) (id : Int) (i : It) : Bool := !ltrB (lkEs A c id i.stripe (dsN c)) (i.seq + 1) (dsN c) && lckB A (lkEs A c id i.stripe (dsN c)) (i.seq + 1) (dsN c)
theorem ltrB_mono {l : List Int} {x : Int} {k m : Nat} (h : ltrB l x k = true) (hm : k ≤ m) : ltrB l x m = true := by
  induction m with
  | zero => obtain rfl : k = 0 := by omega
            exact h
  | succ m ih =>
    by_cases e : k = m + 1
    · rw [← e]; exact h
    · rw [ltrB, ih (by omega)]; rfl

set_option maxRecDepth 100000 in
set_option maxHeartbeats 4000000 in
theorem istoredo_any {w : World} {pv pa : Nat} {fp : List Nat} {A : Ar} {c : Cf} {id seq : Int} (h : IsW w pv pa fp A c id seq) (hs : Slim A) (hc : Fine c) (i : It) (h0 : 0 ≤ i.seq) (h1 : i.seq < 1152921504606846976) (hn : i.stripe ≤ 9223372036854775807) :
    Calls Tryz.prog 67 #[.pointer (some ⟨pv, 0, none⟩), .agg #[.int .i64 i.seq, .int .i64 i.stripe, .string i.text]] w fun e w' => e = .returned (.bool (itrB A c id i)) ∧ Below w.heap.size w w' := by
  obtain ⟨q, n, t⟩ := i
  dsimp only at h0 h1 hn ⊢
  have hD : dsN c ≤ 255 := by unfold dsN; have := hc.km; omega
  have hD1 : 0 < dsN c := by unfold dsN; have := hc.k1; have := hc.m1; omega
  have H0 : Hid (IsW w pv pa fp A c id seq) := h
  have HB0 : Hid (Below w.heap.size w (w.alloc (.cells #[.int .i64 q, .int .i64 n, .string t] 75))) := (Below.refl _ _).alloc (Nat.le_refl _) _
  have HR0 : Hid (Row (w.alloc (.cells #[.int .i64 q, .int .i64 n, .string t] 75)) w.heap.size 75 #[.int .i64 q, .int .i64 n, .string t]) := Row.new _ _ _
  have CL : Hid (Calls Tryz.prog 43 #[.pointer (some ⟨pv, 0, none⟩), .int .i64 n] (w.alloc (.cells #[.int .i64 q, .int .i64 n, .string t] 75)) fun e w' => ∃ v1 g c2, e = .returned (.tuple #[v1, .slice (some ⟨g, 0, none⟩) (dsN c) c2]) ∧ g < w'.heap.size ∧ (∀ i, i < dsN c → w'.cell? ⟨g, i, none⟩ = some (.int .i64 ((lkEs A c id n (dsN c)).getD i 0))) ∧ Below (w.alloc (.cells #[.int .i64 q, .int .i64 n, .string t] 75)).heap.size (w.alloc (.cells #[.int .i64 q, .int .i64 n, .string t] 75)) w') := show Calls _ _ _ _ _ by
    refine (look_any (h.below HB0.out) hs hc n hn).mono ?_
    rintro e w' ⟨v1, v2, rfl, _, o2, hb⟩
    have hl := lkEs_length A c id n (dsN c)
    obtain ⟨a2, c2, e1, _, _, e2⟩ := own_zcs (l := lkEs A c id n (dsN c)) (by rw [hl]; exact o2)
    rw [hl] at e1 e2
    obtain ⟨g, rfl, _, q2, q3⟩ := e2 hD1
    exact ⟨v1, g, c2, by rw [e1], q2, q3, hb⟩
  have HA : Hid (∀ W, Below w.heap.size w W → ∀ d : Int, Calls Tryz.prog 47 #[.pointer (some ⟨pa, 0, none⟩), .int .i64 d] W fun e w' => e = .returned (.bool (aAl A d)) ∧ w' = W) := show ∀ W, _ → ∀ d : Int, _ from fun W hW d => aalive_any (h.below hW).arr d
  have HPC : Hid (∀ W, Below w.heap.size w W → W.cell? ⟨pv, 0, none⟩ = some (.pointer (some ⟨pa, 0, none⟩))) := show ∀ W, _ → _ from fun W hW => (h.below hW).row.cell rfl
  have HQ : Hid (∀ es D, lkEs A c id n (dsN c) = es → dsN c = D → itrB A c id ⟨q, n, t⟩ = (!ltrB es (q + 1) D && lckB A es (q + 1) D)) := show ∀ es D, _ → _ → _ from fun es D h1 h2 => by subst h1 h2; rfl
  have HI := show Hid (_) from HQ.out _ _ rfl rfl
  clear HQ
  have hwr : IntKind.i64.wrap (q + 1) = q + 1 := wrap_i64 (by omega) (by omega)
  generalize itrB A c id ⟨q, n, t⟩ = ans at HI ⊢
  generalize lkEs A c id n (dsN c) = es at CL HI
  generalize dsN c = D at *
  have hl0 : ltrB es (q + 1) 0 = false := rfl
  have hk0 : lckB A es (q + 1) 0 = false := rfl
  have HLS : Hid (∀ k, ltrB es (q + 1) (k + 1) = (ltrB es (q + 1) k || decide (q + 1 < es.getD k 0))) := fun k => rfl
  have HKS : Hid (∀ k, lckB A es (q + 1) (k + 1) = (lckB A es (q + 1) k || (aAl A (k : Int) && (es.getD k 0 != q + 1)))) := fun k => rfl
  have HLM : Hid (∀ k, k ≤ D → ltrB es (q + 1) k = true → ltrB es (q + 1) D = true) := fun k hk h => ltrB_mono h hk
  generalize ltrB es (q + 1) = lt at HI HLS HLM hl0
  generalize lckB A es (q + 1) = lk at HI HKS hk0
  have HL0 : Hid (lt 0 = false) := hl0
  have HK0 : Hid (lk 0 = false) := hk0
  clear h hs hc hl0 hk0
  go_enter Tryz.func67, Tryz.ntmps67
  go_wp2_with fail
  refine Calls.mono CL.out ?_
  rintro e w1 ⟨v1, g, c2, rfl, hg, hcc, hb⟩
  have HR1 : Hid (Row w1 w.heap.size 75 #[.int .i64 q, .int .i64 n, .string t]) := show Row _ _ _ _ from HR0.out.kept (Fr.of_below (fp := []) hb) (by simp)
  have HB1 : Hid (Below w.heap.size w w1) := show Below _ _ _ from below_step HB0.out hb
  have HCC : Hid (∀ i, i < D → w1.cell? ⟨g, i, none⟩ = some (.int .i64 (es.getD i 0))) := hcc
  have q0 : w1.cell? ⟨w.heap.size, 0, none⟩ = some (.int .i64 q) := HR1.out.cell rfl
  have x0 : w1.cell? ⟨pv, 0, none⟩ = some (.pointer (some ⟨pa, 0, none⟩)) := HPC.out w1 HB1.out
  clear hg hcc hb CL HR0
  go_wp2
  go_loopw [7, 19] (fun m i wr => ∃ k : Nat, k ≤ D ∧ i = .int .i64 (k : Int) ∧ m = .bool (lk k) ∧ lt k = false ∧ w1 = wr) (fun _ i _ => D - (RowKit.intOf i).toNat)
  case atStart => exact ⟨0, by omega, rfl, by rw [HK0.out], HL0.out, rfl⟩
  case round =>
    obtain ⟨k, hk, rfl, rfl, hlk, rfl⟩ := hrel
    by_cases hlt : k < D
    case neg =>
      obtain rfl : k = D := by omega
      have HE : Hid (ans = lk k) := show _ = _ by rw [HI.out, hlk]; rfl
      clear hlk
      go_wp2
      go_ret
      exact ⟨congrArg (fun b => Ending.returned (.bool b)) HE.out.symm, HB1.out⟩
    have ck := HCC.out k hlt
    have e1 := HLS.out k
    have e2 := HKS.out k
    rw [hlk, Bool.false_or] at e1
    generalize es.getD k 0 = x at ck e1 e2
    have CA := show Hid (_) from HA.out w1 HB1.out (k : Int)
    clear hlk
    by_cases hx : q + 1 < x
    · have hd : decide (q + 1 < x) = true := decide_eq_true hx
      rw [hd] at e1
      have HE : Hid (ans = false) := show _ = _ by rw [HI.out, HLM.out (k + 1) (by omega) e1]; rfl
      clear e1 e2 hx
      go_wp2
      first | exact ⟨congrArg (fun b => Ending.returned (.bool b)) HE.out.symm, HB1.out⟩ | (go_ret; exact ⟨congrArg (fun b => Ending.returned (.bool b)) HE.out.symm, HB1.out⟩)
    · have hd : decide (q + 1 < x) = false := decide_eq_false hx
      rw [hd] at e1
      have HE1 : Hid (lt (k + 1) = false) := e1
      cases hal : aAl A (k : Int) with
      | false =>
        rw [hal] at e2 CA
        have HE2 : Hid (lk (k + 1) = lk k) := show _ = _ by rw [e2]; simp
        clear e1 e2 hx hal
        go_wp2_with fail
        refine same CA.out ?_
        go_wp2
        go_roundw
        case rel => exact ⟨k + 1, by omega, by go_num, by rw [HE2.out], HE1.out, by trivial⟩
        case measure => simp [RowKit.intOf]; omega
      | true =>
        rw [hal] at e2 CA
        by_cases hxe : x = q + 1
        · have hb : (x != q + 1) = false := by rw [hxe]; simp
          rw [hb] at e2
          have HE2 : Hid (lk (k + 1) = lk k) := show _ = _ by rw [e2]; simp
          clear e1 e2 hx hal hxe
          go_wp2_with fail
          refine same CA.out ?_
          go_wp2
          go_roundw
          case rel => exact ⟨k + 1, by omega, by go_num, by rw [HE2.out], HE1.out, by trivial⟩
          case measure => simp [RowKit.intOf]; omega
        · have hb : (x != q + 1) = true := by rw [bne_iff_ne]; exact hxe
          rw [hb] at e2
          have HE2 : Hid (lk (k + 1) = true) := show _ = _ by rw [e2]; simp
          clear e1 e2 hx hal hxe
          go_wp2_with fail
          refine same CA.out ?_
          go_wp2
          go_roundw
          case rel => exact ⟨k + 1, by omega, by go_num, by rw [HE2.out], HE1.out, by trivial⟩
          case measure => simp [RowKit.intOf]; omega
end Go.Proofs.YtbmjcnmgignaoaaGreatDoor

/- Texts stay small where small ones are written. -/
namespace Go.Proofs.YtbmjcnmgignaoaaGreatDoor
open Go.RowKit Vecm Opened Wirem Txt Frm Diskm Arym Volm Wrm Intm Tab
open Blkm (Bk bk0 owE owB sealE sealS)
open Cfm (Cf)
open Crcm (bys)
set_option linter.unusedVariables false

theorem slim_dk {d : Dk} {n n' : Int} {s : ByteArray} {N : Nat} (h : (rdS d n').size ≤ N) (hs : s.size ≤ N) : (rdS (Diskm.wr d n s) n').size ≤ N := by
  unfold Diskm.wr
  split
  · have e : rdE { d with wt := d.wt ++ [⟨n.toNat, s⟩] } n' = rdE d n' := rfl
    unfold rdS at h ⊢
    rw [e]
    split
    · rename_i h0
      rw [if_pos h0] at h
      show (cur (d.wt ++ [⟨n.toNat, s⟩]) n'.toNat (d.secs.getD n'.toNat nul)).size ≤ N
      unfold cur at h ⊢
      rw [List.foldl_append]
      show (if n.toNat = n'.toNat then s else _).size ≤ N
      split
      · exact hs
      · exact h
    · exact Nat.zero_le _
  · exact h
theorem slim_wr {A : Ar} (h : Slim A) (d n : Int) (s : ByteArray) (hs : s.size ≤ 100000) : Slim (aWr A d n s) := by
  intro d' n'
  unfold aWr
  split
  · exact h d' n'
  · split
    · split
      · show (if true = true then nul else _).size ≤ _
        rw [if_pos rfl]; exact Nat.zero_le _
      · rename_i hd hp hf
        have h1 := h d' n'
        have hd' : A.down = false := by simpa using hd
        unfold aRdS at h1 ⊢
        rw [hd'] at h1 ⊢
        simp only [Bool.false_eq_true, if_false] at h1 ⊢
        have eh : has ⟨A.ds.set d.toNat (Diskm.wr (dk A d) n s), false, A.fuse.map fun k => k - 1⟩ d' = has A d' := by
          unfold has; simp
        rw [eh]
        by_cases h2 : has A d' = true
        · rw [if_pos h2] at h1 ⊢
          have hlt : d'.toNat < A.ds.length := by
            obtain ⟨h3, h4⟩ := has_iff.1 h2
            omega
          unfold dk at h1 ⊢
          by_cases he : d.toNat = d'.toNat
          · have e : (A.ds.set d.toNat (Diskm.wr (A.ds.getD d.toNat nod) n s)).getD d'.toNat nod = Diskm.wr (A.ds.getD d'.toNat nod) n s := by
              rw [he]; simp [List.getD, hlt]
            show (rdS ((A.ds.set d.toNat (Diskm.wr (A.ds.getD d.toNat nod) n s)).getD d'.toNat nod) n').size ≤ _
            rw [e]
            exact slim_dk h1 hs
          · have e : (A.ds.set d.toNat (Diskm.wr (A.ds.getD d.toNat nod) n s)).getD d'.toNat nod = A.ds.getD d'.toNat nod := by
              simp [List.getD, he]
            show (rdS ((A.ds.set d.toNat (Diskm.wr (A.ds.getD d.toNat nod) n s)).getD d'.toNat nod) n').size ≤ _
            rw [e]
            exact h1
        · rw [if_neg h2]; exact Nat.zero_le _
    · exact h d' n'
theorem slim_stp {x : Ar × Int} (h : Slim x.1) (i : It) (hi : i.text.size ≤ 100000) : Slim (stp x i).1 := by
  unfold stp
  split
  · exact slim_wr h _ _ _ hi
  · exact h
theorem slim_pts (l : List It) : ∀ {x : Ar × Int}, Slim x.1 → (∀ i ∈ l, i.text.size ≤ 100000) → Slim (pts x l).1 := by
  induction l with
  | nil => intro x h _; exact h
  | cons i l ih =>
    intro x h hl
    rw [pts_cons]
    exact ih (slim_stp h i (hl i (by simp))) (fun j hj => hl j (by simp [hj]))
end Go.Proofs.YtbmjcnmgignaoaaGreatDoor

/- How a slice of intents (two numbers and a text each), and one of calls (three numbers and a text each), is told to a walk. -/
namespace Opened
open Go Go.ChangeShapes Go.WideShapes Go.ChangeAt Go.RowKit Go.Deep Go.Joins Intm
set_option linter.unusedVariables false

/-- Numbers and a text that a machine may have. -/
structure ItW (x : It) : Prop where
  s0 : -9223372036854775808 ≤ x.seq
  s1 : x.seq ≤ 9223372036854775807
  n0 : -9223372036854775808 ≤ x.stripe
  n1 : x.stripe ≤ 9223372036854775807
  t : x.text.size ≤ maxLen
/-- A slice of intents. -/
def IsR (w : World) (a : Option Addr) (len : Nat) (l : List It) : Prop :=
  l.length = len ∧ len ≤ maxLen ∧ (∀ x ∈ l, ItW x) ∧
  (0 < len → ∃ b off, a = some ⟨b, off, none⟩ ∧ b < w.heap.size ∧ ∀ i, i < len →
    w.cell? ⟨b, off + i * 3, none⟩ = some (.int .i64 (l.getD i it0).seq) ∧ w.cell? ⟨b, off + (i * 3 + 1), none⟩ = some (.int .i64 (l.getD i it0).stripe) ∧ w.cell? ⟨b, off + (i * 3 + 2), none⟩ = some (.string (l.getD i it0).text))
theorem IsR.below {w w' : World} {a : Option Addr} {n : Nat} {l : List It} (h : IsR w a n l) (hb : Below w.heap.size w w') : IsR w' a n l := by
  obtain ⟨h1, h2, h3, h4⟩ := h
  refine ⟨h1, h2, h3, fun h0 => ?_⟩
  obtain ⟨b, off, e, hl, hc⟩ := h4 h0
  refine ⟨b, off, e, Nat.lt_of_lt_of_le hl hb.size, fun i hi => ?_⟩
  obtain ⟨c1, c2, c3⟩ := hc i hi
  exact ⟨(hb.cell hl).trans c1, (hb.cell hl).trans c2, (hb.cell hl).trans c3⟩
theorem IsR.nil (w : World) : IsR w none 0 [] := ⟨rfl, by simp [maxLen], fun x hx => (by cases hx), fun h => by omega⟩

/-- A call on a volume. -/
structure Vo where
  do' : Int
  d : Int
  n : Int
  s : ByteArray
def vo0 : Vo := ⟨0, 0, 0, ⟨#[]⟩⟩
structure VoW (x : Vo) : Prop where
  o0 : -9223372036854775808 ≤ x.do'
  o1 : x.do' ≤ 9223372036854775807
  d0 : -9223372036854775808 ≤ x.d
  d1 : x.d ≤ 9223372036854775807
  n0 : -9223372036854775808 ≤ x.n
  n1 : x.n ≤ 9223372036854775807
  t : x.s.size ≤ maxLen
def IsV (w : World) (a : Option Addr) (len : Nat) (l : List Vo) : Prop :=
  l.length = len ∧ len ≤ maxLen ∧ (∀ x ∈ l, VoW x) ∧
  (0 < len → ∃ b off, a = some ⟨b, off, none⟩ ∧ b < w.heap.size ∧ ∀ i, i < len →
    w.cell? ⟨b, off + i * 4, none⟩ = some (.int .i64 (l.getD i vo0).do') ∧ w.cell? ⟨b, off + (i * 4 + 1), none⟩ = some (.int .i64 (l.getD i vo0).d) ∧ w.cell? ⟨b, off + (i * 4 + 2), none⟩ = some (.int .i64 (l.getD i vo0).n) ∧ w.cell? ⟨b, off + (i * 4 + 3), none⟩ = some (.string (l.getD i vo0).s))
theorem IsV.below {w w' : World} {a : Option Addr} {n : Nat} {l : List Vo} (h : IsV w a n l) (hb : Below w.heap.size w w') : IsV w' a n l := by
  obtain ⟨h1, h2, h3, h4⟩ := h
  refine ⟨h1, h2, h3, fun h0 => ?_⟩
  obtain ⟨b, off, e, hl, hc⟩ := h4 h0
  refine ⟨b, off, e, Nat.lt_of_lt_of_le hl hb.size, fun i hi => ?_⟩
  obtain ⟨c1, c2, c3, c4⟩ := hc i hi
  exact ⟨(hb.cell hl).trans c1, (hb.cell hl).trans c2, (hb.cell hl).trans c3, (hb.cell hl).trans c4⟩

variable {H : Type} {enc : TypeId × Value → H} {P : Program} {w : World} {held : Bool}

end Opened

/- What redo does. -/
namespace Go.Proofs.YtbmjcnmgignaoaaGreatDoor
open Go.RowKit Vecm Opened Wirem Txt Frm Diskm Arym Volm Wrm Intm Tab
open Blkm (Bk bk0 owE owB sealE sealS)
open Cfm (Cf)
open Crcm (bys)
set_option linter.unusedVariables false

/-- What redo puts for one intent, and for each of a list. -/
def rdE1 (c : Cf) (id : Int) (x : Ar × Int) (i : It) : Int := soE c id i.stripe (i.seq + 1) i.text (wrk x.1 (dsN c))
def rdL1 (c : Cf) (id : Int) (x : Ar × Int) (i : It) : List It := soL c id i.stripe (i.seq + 1) i.text (wrk x.1 (dsN c))
def rdStep (c : Cf) (id : Int) (x : Ar × Int) (i : It) : Ar × Int := if itrB x.1 c id i = true then pts (er1 x (rdE1 c id x i)) (rdL1 c id x i) else x
def rdF (c : Cf) (id : Int) (l : List It) (x : Ar × Int) : Ar × Int := l.foldl (rdStep c id) x
def rdX (A : Ar) (c : Cf) (id : Int) (l : List It) : Ar × Int := flu (rdF c id l (A, 0))
theorem rdF_take {c : Cf} {id : Int} {l : List It} {x : Ar × Int} {k : Nat} (h : k < l.length) : rdF c id (l.take (k + 1)) x = rdStep c id (rdF c id (l.take k) x) (l.getD k it0) := by
  unfold rdF
  rw [List.take_succ_eq_append_getElem h, List.foldl_append]
  simp [List.getD, h]
theorem rdL1_small {c : Cf} (hc : Fine c) (id : Int) (x : Ar × Int) (i : It) : (∀ j ∈ rdL1 c id x i, j.text.size ≤ 100000) ∧ (rdL1 c id x i).length ≤ 255 := by
  refine ⟨fun j hj => ?_, ?_⟩
  · have := slL_small (N := 1024) (fun d => shX_size (s := i.text) hc d) j hj
    omega
  · show (slL _ _ _ _ _).length ≤ _
    rw [slL_length]
    have := wrk_len x.1 (dsN c)
    have : dsN c ≤ 255 := by unfold dsN; have := hc.km; omega
    omega
/-- What stays so behind each intent. -/
structure RdI (x : Ar × Int) (k : Nat) : Prop where
  slim : Slim x.1
  few : FewN x.1 (100000 + 255 * k)
theorem RdI.step {c : Cf} (hc : Fine c) {id : Int} {x : Ar × Int} {k : Nat} (h : RdI x k) (i : It) : RdI (rdStep c id x i) (k + 1) := by
  obtain ⟨h1, h2⟩ := rdL1_small hc id x i
  unfold rdStep
  split
  · refine ⟨slim_pts _ (x := er1 x (rdE1 c id x i)) h.slim h1, ?_⟩
    exact fewN_mono (fewN_pts (rdL1 c id x i) (x := er1 x (rdE1 c id x i)) (N := 100000 + 255 * k) h.few) (by omega)
  · exact ⟨h.slim, fewN_mono h.few (by omega)⟩
/-- What the loop knows. -/
def RdL (w5 : World) (pv pa b : Nat) (fp : List Nat) (X : Ar × Int) (c : Cf) (id seq : Int) (w : World) : Prop := WkP w5 pv pa b fp X c id seq w

set_option maxRecDepth 100000 in
set_option maxHeartbeats 8000000 in
theorem vredo_any {w : World} {pv pa : Nat} {fp : List Nat} {A : Ar} {c : Cf} {id seq : Int} (h : IsW w pv pa fp A c id seq) (hs : Slim A) (hc : Fine c) (hid : id ≤ 9223372036854775807) {a : Option Addr} {len cap : Nat} {l : List It} (hR : IsR w a len l) (hl : len ≤ 1500) (hg : ∀ g off, a = some ⟨g, off, none⟩ → g ∉ fp) (hb : ∀ i ∈ l, 0 ≤ i.seq ∧ i.seq < 1152921504606846976 ∧ i.stripe ≤ 9223372036854775807 ∧ i.text.size ≤ 140737488355328) (hw : FewN A 100000) :
    Calls Tryz.prog 30 #[.pointer (some ⟨pv, 0, none⟩), .slice a len cap] w fun e w' => e = .returned (.int .i64 (rdX A c id l).2) ∧ VdoP w pv pa fp (rdX A c id l).1 c id seq w' := by
  have hmf : ∀ (fn : Fn) (first cap : Array Value) (w : World), (Instr.makeFunc fn first cap).run Tryz.prog w = .ok (.func fn first cap) w := fun _ _ _ _ => rfl
  have C0 : Hid (Calls Tryz.prog 19 #[.pointer (some ⟨pv, 0, none⟩)] w fun e w' => ∃ b, e = .returned (.tuple #[.func (.func 49) #[] #[.pointer (some ⟨b + 2, 0, none⟩), .pointer (some ⟨b, 0, none⟩)], .func (.func 53) #[] #[.pointer (some ⟨b + 2, 0, none⟩), .pointer (some ⟨b, 0, none⟩), .pointer (some ⟨b + 1, 0, none⟩)]]) ∧ w.heap.size ≤ b ∧ WrS w' pv pa b fp A c id seq 0 ∧ Below w.heap.size w w') := show Calls _ _ _ _ _ from writer_any h
  have H0 : Hid (IsW w pv pa fp A c id seq) := h
  have HLN : Hid (l.length = len) := hR.1
  have HCE : Hid (0 < len → ∃ g off, a = some ⟨g, off, none⟩ ∧ g < w.heap.size ∧ g ∉ fp ∧ ∀ i, i < len → w.cell? ⟨g, off + i * 3, none⟩ = some (.int .i64 (l.getD i it0).seq) ∧ w.cell? ⟨g, off + (i * 3 + 1), none⟩ = some (.int .i64 (l.getD i it0).stripe) ∧ w.cell? ⟨g, off + (i * 3 + 2), none⟩ = some (.string (l.getD i it0).text)) := show _ → _ from fun h0 => by
    obtain ⟨g, off, rfl, h1, h2⟩ := hR.2.2.2 h0
    exact ⟨g, off, rfl, h1, hg g off rfl, h2⟩
  have HBD : Hid (∀ k, k < len → 0 ≤ (l.getD k it0).seq ∧ (l.getD k it0).seq < 1152921504606846976 ∧ (l.getD k it0).stripe ≤ 9223372036854775807 ∧ (l.getD k it0).text.size ≤ 140737488355328) := show ∀ k, _ → _ from fun k hk => hb _ (by
    have : k < l.length := by rw [HLN.out]; exact hk
    rw [show l.getD k it0 = l[k] by simp [List.getD, this]]; exact List.getElem_mem _)
  have HRD : Hid (∀ k, k ≤ len → RdI (rdF c id (l.take k) (A, 0)) k) := show ∀ k, _ → _ from fun k => by
    induction k with
    | zero => intro _; exact ⟨hs, hw⟩
    | succ k ih =>
      intro hk
      rw [rdF_take (by rw [HLN.out]; omega)]
      exact RdI.step hc (ih (by omega)) _
  have HST : Hid (∀ k, k < len → rdF c id (l.take (k + 1)) (A, 0) = rdStep c id (rdF c id (l.take k) (A, 0)) (l.getD k it0)) := show ∀ k, _ → _ from fun k hk => rdF_take (by rw [HLN.out]; exact hk)
  have HS0 : Hid (rdF c id (l.take 0) (A, 0) = (A, 0)) := rfl
  have HSE : Hid (rdF c id (l.take len) (A, 0) = rdF c id l (A, 0)) := show _ = _ by rw [← HLN.out, List.take_length]
  have HFC : Hid (Fine c) := hc
  have HRX : Hid (∀ w5 w' b, Below w.heap.size w w5 → w.heap.size ≤ b → WkP w5 pv pa b fp (flu (rdF c id (l.take len) (A, 0))) c id seq w' → (fun e w' => e = Ending.returned (.int .i64 (rdX A c id l).2) ∧ VdoP w pv pa fp (rdX A c id l).1 c id seq w') (.returned (.int .i64 (flu (rdF c id (l.take len) (A, 0))).2)) w') := show ∀ w5 w' b, _ → _ → _ → _ from fun w5 w' b h1 h2 h3 => by
    rw [HSE.out] at h3 ⊢
    exact ⟨rfl, VdoP.of h1 h2 h3⟩
  generalize (fun (e : Ending) (w' : World) => e = Ending.returned (.int .i64 (rdX A c id l).2) ∧ VdoP w pv pa fp (rdX A c id l).1 c id seq w') = P at HRX ⊢
  generalize hF : (fun k => rdF c id (l.take k) (A, 0)) = F
  have HF : Hid (∀ k, rdF c id (l.take k) (A, 0) = F k) := show ∀ k, _ from fun k => by rw [← hF]
  clear h hs hc hR hg hb hw hF HSE
  go_enter Tryz.func30, Tryz.ntmps30
  go_wp2_with fail
  refine Calls.mono C0.out ?_
  rintro e w5 ⟨b, rfl, hb5, hs5, b5⟩
  have HB5 : Hid (w.heap.size ≤ b) := hb5
  have B5 : Hid (Below w.heap.size w w5) := b5
  have HK0 : Hid (WkP w5 pv pa b fp (F 0) c id seq w5) := show WkP _ _ _ _ _ _ _ _ _ _ by rw [← HF.out 0, HS0.out]; exact WkP.same hs5
  clear hb5 b5 hs5 C0
  go_wp2
  go_loopw [16] (fun i wr => ∃ k : Nat, k ≤ len ∧ i = .int .i64 (k : Int) ∧ RdL w5 pv pa b fp (F k) c id seq wr) (fun i _ => len - (RowKit.intOf i).toNat)
  case atStart => exact ⟨0, by omega, rfl, HK0.out⟩
  case round =>
    obtain ⟨k, hk, rfl, hkw⟩ := hrel
    have HKW : Hid (WkP w5 pv pa b fp (F k) c id seq wr) := hkw
    clear hkw
    by_cases hlt : k < len
    case neg =>
      obtain rfl : k = len := by omega
      obtain ⟨fpk, k1, k2, k3⟩ := HKW.out
      have C9 := show Hid (_) from wflush_any k1
      have K2 : Hid (Fr ((b + 1) :: fp) w5 wr) := k2
      have K3 : Hid (Later w5 fp fpk) := k3
      have hfx : flu ((F k).1, (F k).2) = flu (F k) := rfl
      rw [hfx] at C9
      clear k1 k2 k3 hfx
      go_wp2_with fail
      refine Calls.mono C9.out ?_
      rintro e w9 ⟨rfl, k9⟩
      have F9 : Hid (P (.returned (.int .i64 (flu (F k)).2)) w9) := show P _ _ by
        have := HRX.out w5 w9 b B5.out HB5.out (by rw [HF.out k]; exact WkP.then K2.out K3.out k9)
        rw [HF.out k] at this
        exact this
      clear k9 C9
      go_wp2
      exact F9.out
    obtain ⟨g, off, rfl, hg1, hg2, hgc⟩ := HCE.out (by omega)
    obtain ⟨fpk, k1, k2, k3⟩ := HKW.out
    have hcell : ∀ j, wr.cell? ⟨g, j, none⟩ = w.cell? ⟨g, j, none⟩ := fun j => by
      rw [k2.cell (p := ⟨g, j, none⟩) (by have := B5.out.size; show g < _; omega) (fun hm => by
        rcases List.mem_cons.1 hm with e | hm
        · have := HB5.out; dsimp only at e; omega
        · exact hg2 hm)]
      exact (Fr.of_below (fp := []) B5.out).cell (p := ⟨g, j, none⟩) hg1 (by simp)
    obtain ⟨c0, c1, c2⟩ := hgc k hlt
    rw [← hcell] at c0 c1 c2
    rw [← Nat.add_assoc] at c1 c2
    have hbd := HBD.out k hlt
    have hst := HST.out k hlt
    have hrd := HRD.out k hk
    rw [HF.out, HF.out] at hst
    rw [HF.out] at hrd
    obtain ⟨q, hq⟩ : ∃ q, q = l.getD k it0 := ⟨_, rfl⟩
    rw [← hq] at c0 c1 c2 hbd hst
    obtain ⟨q0, q1, q2⟩ := q
    dsimp only at c0 c1 c2 hbd
    obtain ⟨X, hX⟩ : ∃ X, X = F k := ⟨_, rfl⟩
    rw [← hX] at hst hrd k1 HKW
    have HS1 : Hid (WrS wr pv pa b fpk X.1 c id seq X.2) := k1
    have HBV : Hid (Below wr.heap.size wr (wr.alloc (.cells #[.int .i64 q0, .int .i64 q1, .string q2] 75))) := (Below.refl _ _).alloc (Nat.le_refl _) _
    have HRV : Hid (Row (wr.alloc (.cells #[.int .i64 q0, .int .i64 q1, .string q2] 75)) wr.heap.size 75 #[.int .i64 q0, .int .i64 q1, .string q2]) := Row.new _ _ _
    have C1 := show Hid (_) from istoredo_any (k1.vol.below HBV.out) hrd.slim HFC.out ⟨q0, q1, q2⟩ hbd.1 hbd.2.1 hbd.2.2.1
    have HRI : Hid (RdI X k) := hrd
    have HBQ : Hid (0 ≤ q0 ∧ q0 < 1152921504606846976 ∧ q1 ≤ 9223372036854775807 ∧ q2.size ≤ 140737488355328) := hbd
    have HSTP : Hid (F (k + 1) = rdStep c id X ⟨q0, q1, q2⟩) := hst
    have HIB : Hid (∀ k ∈ fpk, k < wr.heap.size) := k1.vol.arr.inn
    have HB1 : Hid (b + 1 < wr.heap.size) := k1.bf.lt
    dsimp only at C1
    generalize hbo : itrB X.1 c id ⟨q0, q1, q2⟩ = bo at C1
    have HBO : Hid (itrB X.1 c id ⟨q0, q1, q2⟩ = bo) := hbo
    have K2 : Hid (Fr ((b + 1) :: fp) w5 wr) := k2
    have K3 : Hid (Later w5 fp fpk) := k3
    clear k1 k2 k3 hg1 hg2 hgc hcell hbd hst hrd hq hX hbo
    go_wp2_with (refine wpList_load_row rfl 75 _ rfl wr.heap.size rfl 75 #[.int .i64 q0, .int .i64 q1, .string q2] (0, 0) _ HRV.out Tryz.underlying75 rfl (by kernel_rfl) ?_)
    refine Calls.mono C1.out ?_
    rintro e w1 ⟨rfl, b1⟩
    have HRW : Hid (Row w1 wr.heap.size 75 #[.int .i64 q0, .int .i64 q1, .string q2]) := show Row _ _ _ _ from HRV.out.kept (Fr.of_below (fp := []) b1) (by simp)
    have BW1 : Hid (Below wr.heap.size wr w1) := show Below _ _ _ from below_step HBV.out b1
    have HKW1 : Hid (WkP w5 pv pa b fp X c id seq w1) := show WkP _ _ _ _ _ _ _ _ _ _ by
      obtain ⟨f, m1, m2, m3⟩ := HKW.out
      exact ⟨f, m1.below BW1.out, m2.trans (Fr.of_below (fp := []) BW1.out) (fun k hk => by cases hk), m3⟩
    clear b1 C1 c0 c1 c2 HRV HBV
    cases bo with
    | false =>
      have HE : Hid (F (k + 1) = X) := show _ = _ by rw [HSTP.out, rdStep, HBO.out]; rfl
      go_wp2
      go_roundw
      case rel => exact ⟨k + 1, by omega, by go_num, by rw [HE.out]; exact HKW1.out⟩
      case measure => simp [RowKit.intOf]; omega
    | true =>
      have HE : Hid (F (k + 1) = pts (er1 X (rdE1 c id X ⟨q0, q1, q2⟩)) (rdL1 c id X ⟨q0, q1, q2⟩)) := show _ = _ by rw [HSTP.out, rdStep, HBO.out]; rfl
      have HBX : Hid (∀ W, Below w1.heap.size w1 W → W.cell? ⟨wr.heap.size, 0, none⟩ = some (.int .i64 q0) ∧ W.cell? ⟨wr.heap.size, 1, none⟩ = some (.int .i64 q1) ∧ W.cell? ⟨wr.heap.size, 2, none⟩ = some (.string q2)) := show ∀ W, _ → _ from fun W hW => by
        have r := HRW.out.kept (Fr.of_below (fp := []) hW) (by simp)
        exact ⟨r.cell rfl, r.cell rfl, r.cell rfl⟩
      have CK : Hid (∀ W, Below w1.heap.size w1 W → Calls Tryz.prog 18 #[.pointer (some ⟨pv, 0, none⟩)] W fun e w' => ∃ a4 n4 c4, e = .returned (.slice a4 n4 c4) ∧ (n4 = (wrk X.1 (dsN c)).length ∧ w'.ownsRow w1.heap.size 3 1 (.slice a4 n4 c4) (wrk X.1 (dsN c)).length (zcs (wrk X.1 (dsN c)))) ∧ Below w1.heap.size w1 w') := show ∀ W, _ → _ from fun W hW => by
        refine (working_any ((HS1.out.vol.below BW1.out).below hW) HFC.out).mono ?_
        rintro e w' ⟨v, rfl, o, hb⟩
        obtain ⟨a4, c4, rfl, _, _⟩ := own_zcs o
        exact ⟨a4, _, c4, rfl, ⟨rfl, Go.Joins.ownsRow_le o hW.size⟩, below_step hW hb⟩
      have CSO : Hid (∀ W a4 n4 c4, Below w1.heap.size w1 W → (n4 = (wrk X.1 (dsN c)).length ∧ W.ownsRow w1.heap.size 3 1 (.slice a4 n4 c4) (wrk X.1 (dsN c)).length (zcs (wrk X.1 (dsN c)))) → Calls Tryz.prog 20 #[.pointer (some ⟨pv, 0, none⟩), .slice a4 n4 c4, .int .i64 q1, .int .i64 (q0 + 1), .string q2] W fun e w' => ∃ v, e = .returned (.tuple #[v, .int .i64 (rdE1 c id X ⟨q0, q1, q2⟩)]) ∧ (∃ W0, SlP W0 (rdE1 c id X ⟨q0, q1, q2⟩) (rdL1 c id X ⟨q0, q1, q2⟩) (.returned (.tuple #[v, .int .i64 (rdE1 c id X ⟨q0, q1, q2⟩)])) w') ∧ Below w1.heap.size w1 w') := show ∀ W a4 n4 c4, _ → _ → _ from fun W a4 n4 c4 hW ho => by
        have hkm := HFC.out.k1
        have hmm := HFC.out.m1
        have hkk := HFC.out.km
        have hwl := wrk_len X.1 (dsN c)
        have hD : dsN c ≤ 255 := by unfold dsN; omega
        refine (shardsof_any ((HS1.out.vol.below BW1.out).below hW) q1 (q0 + 1) HBQ.out.2.2.1 q2 HBQ.out.2.2.2 (wrk X.1 (dsN c)) (.slice a4 n4 c4) w1.heap.size ho.2 (by omega) (fun he => ?_) (fun he d hd => ?_) (fun d hd => ?_)).mono ?_
        · have := splS_len he; omega
        · have h1 := mem_wrk.1 hd
          have h2 := splS_len he
          unfold dsN at h1
          omega
        · have h1 := mem_wrk.1 hd
          exact bkOk_so HFC.out hid (by have := HBQ.out; omega) (by omega)
        · intro e w' z
          obtain ⟨v, rfl⟩ := slp_form z
          exact ⟨v, rfl, ⟨W, z⟩, below_step hW z.1⟩
      have CPT : Hid (∀ W v, Below w1.heap.size w1 W → (∃ W0, SlP W0 (rdE1 c id X ⟨q0, q1, q2⟩) (rdL1 c id X ⟨q0, q1, q2⟩) (.returned (.tuple #[v, .int .i64 (rdE1 c id X ⟨q0, q1, q2⟩)])) W) → Calls Tryz.prog 49 #[v, .int .i64 (rdE1 c id X ⟨q0, q1, q2⟩), .pointer (some ⟨b + 2, 0, none⟩), .pointer (some ⟨b, 0, none⟩)] W fun e w' => e = .returned (.tuple #[]) ∧ WkP w5 pv pa b fp (pts (er1 X (rdE1 c id X ⟨q0, q1, q2⟩)) (rdL1 c id X ⟨q0, q1, q2⟩)) c id seq w' ∧ (w'.cell? ⟨wr.heap.size, 0, none⟩ = some (.int .i64 q0) ∧ w'.cell? ⟨wr.heap.size, 1, none⟩ = some (.int .i64 q1) ∧ w'.cell? ⟨wr.heap.size, 2, none⟩ = some (.string q2))) := show ∀ W v, _ → _ → _ from fun W v hW hz => by
        obtain ⟨W0, z⟩ := hz
        obtain ⟨hl1, hl2⟩ := rdL1_small HFC.out id X ⟨q0, q1, q2⟩
        refine (put_slp ((HS1.out.below BW1.out).below hW) z (by omega) (fun i hi => by have := hl1 i hi; omega) (fewN_mono HRI.out.few (by omega))).mono ?_
        rintro e w' ⟨rfl, hk⟩
        have hall := below_step BW1.out hW
        refine ⟨rfl, ?_, ?_⟩
        · exact WkP.then K2.out K3.out (WkP.of_below hall hk)
        · obtain ⟨f, m1, m2, m3⟩ := hk
          have r := (HRW.out.kept (Fr.of_below (fp := []) hW) (by simp)).kept m2 (fun hm => by
            rcases List.mem_cons.1 hm with e | hm
            · have := HB1.out; omega
            · have := HIB.out _ hm; omega)
          exact ⟨r.cell rfl, r.cell rfl, r.cell rfl⟩
      have hwr : IntKind.i64.wrap (q0 + 1) = q0 + 1 := wrap_i64 (by have := HBQ.out; omega) (by have := HBQ.out; omega)
      have HBD1 : Hid (Below w1.heap.size w1 w1.drew) := Below.drew (Below.refl _ _)
      obtain ⟨d0, d1, d2⟩ := HBX.out w1 (Below.refl _ _)
      generalize rdE1 c id X ⟨q0, q1, q2⟩ = E at CSO CPT HE
      generalize rdL1 c id X ⟨q0, q1, q2⟩ = L at CSO CPT HE
      generalize wrk X.1 (dsN c) = WL at CK CSO
      generalize pts (er1 X E) L = Y at CPT HE
      clear HSTP HBO HRX HKW HKW1
      go_wp2
      go_region_held3 (fun W => W.cell? ⟨wr.heap.size, 0, none⟩ = some (.int .i64 q0) ∧ W.cell? ⟨wr.heap.size, 1, none⟩ = some (.int .i64 q1) ∧ W.cell? ⟨wr.heap.size, 2, none⟩ = some (.string q2))
        (first | exact HBX.out _ HBD1.out | exact HBX.out _ (Hid.out (by assumption)) | exact Hid.out (by assumption))
        (first
          | (go_at_call 18; refine Calls.mono (CK.out _ HBD1.out) ?_; rintro e w2 ⟨a4, n4, c4, rfl, z1, z2⟩; have Z1 : Hid (n4 = WL.length ∧ w2.ownsRow w1.heap.size 3 1 (.slice a4 n4 c4) WL.length (zcs WL)) := z1; have Z2 : Hid (Below w1.heap.size w1 w2) := z2; clear z1 z2)
          | (go_at_call 20; refine Calls.mono (CSO.out _ _ _ _ Z2.out Z1.out) ?_; rintro e w3 ⟨v, rfl, y1, y2⟩; have Y1 : Hid (∃ W0, SlP W0 E L (.returned (.tuple #[v, .int .i64 E])) w3) := y1; have Y2 : Hid (Below w1.heap.size w1 w3) := y2; clear y1 y2)
          | (go_at_call 49; refine Calls.mono (CPT.out _ _ Y2.out Y1.out) ?_; rintro e w4 ⟨rfl, x1, x2⟩; have X1 : Hid (WkP w5 pv pa b fp Y c id seq w4) := x1; have X2 : Hid (w4.cell? ⟨wr.heap.size, 0, none⟩ = some (.int .i64 q0) ∧ w4.cell? ⟨wr.heap.size, 1, none⟩ = some (.int .i64 q1) ∧ w4.cell? ⟨wr.heap.size, 2, none⟩ = some (.string q2)) := x2; clear x1 x2))
      all_goals (
        go_wp2
        go_roundw
        case rel => exact ⟨k + 1, by omega, by go_num, by rw [HE.out]; exact X1.out⟩
        case measure => simp [RowKit.intOf]; omega)
end Go.Proofs.YtbmjcnmgignaoaaGreatDoor

/- What findLayout does. -/
namespace Go.Proofs.YtbmjcnmgignaoaaGreatDoor
open Go.RowKit Vecm Opened Wirem Txt Frm Diskm Arym Volm Wrm Intm Tab
open Blkm (Bk bk0 owE owB sealE sealS)
open Cfm (Cf)
open Crcm (bys)
set_option linter.unusedVariables false

/-- The volume with another layout. -/
def layS (w : World) (pv : Nat) (c : Cf) : World := ((((w.setCell ⟨pv, 1, none⟩ (.int .i64 c.k)).setCell ⟨pv, 2, none⟩ (.int .i64 c.m)).setCell ⟨pv, 3, none⟩ (.int .i64 c.sh)).setCell ⟨pv, 4, none⟩ (.int .i64 c.st)).setCell ⟨pv, 5, none⟩ (.int .i64 c.sl)
theorem fr_layS (w : World) (pv : Nat) (c : Cf) : Fr [pv] w (layS w pv c) :=
  (((((Fr.refl [pv] w).setCell (.inl (by simp)) _).setCell (.inl (by simp)) _).setCell (.inl (by simp)) _).setCell (.inl (by simp)) _).setCell (.inl (by simp)) _
theorem IsW.lay {w : World} {pv pa : Nat} {fp : List Nat} {A : Ar} {c : Cf} {id seq : Int} (h : IsW w pv pa fp A c id seq) (c' : Cf) : IsW (layS w pv c') pv pa fp A c' id seq :=
  ⟨((((h.row.set 1 (.int .i64 c'.k)).set 2 (.int .i64 c'.m)).set 3 (.int .i64 c'.sh)).set 4 (.int .i64 c'.st)).set 5 (.int .i64 c'.sl), h.arr.kept (fr_layS w pv c') (fun k hk hm => by simp only [List.mem_singleton] at hm; subst hm; exact h.off hk), h.off⟩
def FlayP (w : World) (pv pa : Nat) (fp : List Nat) (A : Ar) (c : Cf) (id seq : Int) (e : Ending) (w' : World) : Prop :=
  (∃ d : Nat, d < A.ds.length ∧ (∀ j : Nat, j < d → diskN (hdC A id (j : Int)) ≠ (A.ds.length : Int)) ∧ diskN (hdC A id (d : Int)) = (A.ds.length : Int) ∧ e = .returned (.bool true) ∧ VdoQ w pv pa fp A (hdC A id (d : Int)) id seq w') ∨
  ((∀ j : Nat, j < A.ds.length → diskN (hdC A id (j : Int)) ≠ (A.ds.length : Int)) ∧ e = .returned (.bool false) ∧ VdoQ w pv pa fp A c id seq w')

set_option maxRecDepth 100000 in
set_option maxHeartbeats 8000000 in
theorem flay_any {w : World} {pv pa : Nat} {fp : List Nat} {A : Ar} {c : Cf} {id seq : Int} (h : IsW w pv pa fp A c id seq) (hs : Slim A) (hN : A.ds.length ≤ 100000) :
    Calls Tryz.prog 26 #[.pointer (some ⟨pv, 0, none⟩)] w (FlayP w pv pa fp A c id seq) := by
  have H0 : Hid (IsW w pv pa fp A c id seq) := h
  have CD : Hid (∀ W, Below w.heap.size w W → Calls Tryz.prog 33 #[.pointer (some ⟨pa, 0, none⟩)] W fun e w' => e = .returned (.int .i64 (A.ds.length : Int)) ∧ w' = W) := show ∀ W, _ → _ from fun W hW => adisks_any (h.below hW).arr
  have CH : Hid (∀ W, Below w.heap.size w W → ∀ d : Int, Calls Tryz.prog 24 #[.pointer (some ⟨pv, 0, none⟩), .int .i64 d] W fun e w' => e = .returned (.agg (cfC (hdC A id d))) ∧ Below W.heap.size W w') := show ∀ W, _ → ∀ d : Int, _ from fun W hW d => vhead_any (h.below hW) hs d
  have CC : Hid (∀ (c' : Cf) W, Calls Tryz.prog 34 #[.agg (cfC c')] W fun e w' => e = .returned (.int .i64 (diskN c')) ∧ Below W.heap.size W w') := show ∀ (c' : Cf) W, _ from fun c' W => disks_any c' W
  have HX0 : Hid (∀ W, Below w.heap.size w W → W.cell? ⟨pv, 0, none⟩ = some (.pointer (some ⟨pa, 0, none⟩))) := show ∀ W, _ → _ from fun W hW => (h.below hW).row.cell rfl
  have HNO : Hid (∀ w', Below w.heap.size w w' → (∀ j : Nat, j < A.ds.length → diskN (hdC A id (j : Int)) ≠ (A.ds.length : Int)) → FlayP w pv pa fp A c id seq (.returned (.bool false)) w') := show ∀ w', _ → _ → _ from fun w' hb hn => .inr ⟨hn, rfl, VdoQ.same h hb⟩
  have HYE : Hid (∀ w' (d : Nat), Below w.heap.size w w' → d < A.ds.length → (∀ j : Nat, j < d → diskN (hdC A id (j : Int)) ≠ (A.ds.length : Int)) → diskN (hdC A id (d : Int)) = (A.ds.length : Int) → FlayP w pv pa fp A c id seq (.returned (.bool true)) (layS w' pv (hdC A id (d : Int)))) := show ∀ w' (d : Nat), _ → _ → _ → _ → _ from fun w' d hb hd hn he => .inl ⟨d, hd, hn, he, rfl, fp, (h.below hb).lay _, ((Fr.of_below (fp := [pv]) hb).trans (fr_layS w' pv _) (Later.refl _ _)).mono (by simp), Later.refl _ _⟩
  generalize FlayP w pv pa fp A c id seq = P at HNO HYE ⊢
  generalize A.ds.length = N at *
  have x0 : w.cell? ⟨pv, 0, none⟩ = some (.pointer (some ⟨pa, 0, none⟩)) := HX0.out w (Below.refl _ _)
  clear h hs
  go_enter Tryz.func26, Tryz.ntmps26
  go_wp2_with fail
  refine same (CD.out w (Below.refl _ _)) ?_
  clear x0
  go_wp2
  go_loopw [10] (fun i wr => ∃ k : Nat, k ≤ N ∧ i = .int .i64 (k : Int) ∧ (∀ j : Nat, j < k → diskN (hdC A id (j : Int)) ≠ (N : Int)) ∧ Below w.heap.size w wr) (fun i _ => N - (RowKit.intOf i).toNat)
  case atStart => exact ⟨0, by omega, rfl, fun j hj => by omega, Below.refl _ _⟩
  case round =>
    obtain ⟨k, hk, rfl, hno, hbel⟩ := hrel
    have BW : Hid (Below w.heap.size w wr) := hbel
    have HNK : Hid (∀ j : Nat, j < k → diskN (hdC A id (j : Int)) ≠ (N : Int)) := hno
    clear hbel hno
    by_cases hlt : k < N
    case neg =>
      obtain rfl : k = N := by omega
      have F : Hid (P (.returned (.bool false)) wr) := HNO.out wr BW.out HNK.out
      go_wp2
      exact F.out
    have C1 := show Hid (_) from CH.out wr BW.out (k : Int)
    have HY := show Hid (_) from HYE.out (d := k)
    obtain ⟨C, hC⟩ : ∃ C, C = hdC A id (k : Int) := ⟨_, rfl⟩
    have HCE : Hid (hdC A id (k : Int) = C) := hC.symm
    rw [← hC] at C1 HY
    obtain ⟨ck, cm, csh, cst, csl⟩ := C
    rw [cfC] at C1
    dsimp only at C1
    clear hC
    go_wp2_with fail
    refine Calls.mono C1.out ?_
    rintro e w1 ⟨rfl, b1⟩
    obtain ⟨V, hV⟩ : ∃ V, V = w1.alloc (.cells #[.int .i64 ck, .int .i64 cm, .int .i64 csh, .int .i64 cst, .int .i64 csl] 33) := ⟨_, rfl⟩
    have HRV : Hid (Row V w1.heap.size 33 #[.int .i64 ck, .int .i64 cm, .int .i64 csh, .int .i64 cst, .int .i64 csl]) := show Row _ _ _ _ by rw [hV]; exact Row.new _ _ _
    have HBV : Hid (Below w.heap.size w V) := show Below _ _ _ by
      rw [hV]
      have := below_step BW.out b1
      exact this.alloc this.size _
    have hva : w1.alloc (.cells #[.int .i64 ck, .int .i64 cm, .int .i64 csh, .int .i64 cst, .int .i64 csl] 33) = V := hV.symm
    have HKC : Hid (∀ W, Below V.heap.size V W → Below V.heap.size V W ∧ W.cell? ⟨pv, 0, none⟩ = some (.pointer (some ⟨pa, 0, none⟩)) ∧ W.cell? ⟨w1.heap.size, 0, none⟩ = some (.int .i64 ck) ∧ W.cell? ⟨w1.heap.size, 1, none⟩ = some (.int .i64 cm) ∧ W.cell? ⟨w1.heap.size, 2, none⟩ = some (.int .i64 csh) ∧ W.cell? ⟨w1.heap.size, 3, none⟩ = some (.int .i64 cst) ∧ W.cell? ⟨w1.heap.size, 4, none⟩ = some (.int .i64 csl)) := show ∀ W, _ → _ from fun W hW => by
      have r := HRV.out.kept (Fr.of_below (fp := []) hW) (by simp)
      exact ⟨hW, HX0.out W (below_step HBV.out hW), r.cell rfl, r.cell rfl, r.cell rfl, r.cell rfl, r.cell rfl⟩
    have CC1 : Hid (∀ W, Below V.heap.size V W → Calls Tryz.prog 34 #[.agg #[.int .i64 ck, .int .i64 cm, .int .i64 csh, .int .i64 cst, .int .i64 csl]] W fun e w' => e = .returned (.int .i64 (diskN ⟨ck, cm, csh, cst, csl⟩)) ∧ Below V.heap.size V w') := show ∀ W, _ → _ from fun W hW => (CC.out ⟨ck, cm, csh, cst, csl⟩ W).mono fun e w' ⟨h1, h2⟩ => ⟨h1, below_step hW h2⟩
    have CD1 : Hid (∀ W, Below V.heap.size V W → Calls Tryz.prog 33 #[.pointer (some ⟨pa, 0, none⟩)] W fun e w' => e = .returned (.int .i64 (N : Int)) ∧ Below V.heap.size V w') := show ∀ W, _ → _ from fun W hW => (CD.out W (below_step HBV.out hW)).mono fun e w' ⟨h1, h2⟩ => ⟨h1, by rw [h2]; exact hW⟩
    have HBD : Hid (Below V.heap.size V V.drew) := Below.drew (Below.refl _ _)
    have HYF : Hid (∀ w', Below V.heap.size V w' → diskN ⟨ck, cm, csh, cst, csl⟩ = (N : Int) → P (.returned (.bool true)) (layS w' pv ⟨ck, cm, csh, cst, csl⟩)) := show ∀ w', _ → _ → _ from fun w' hb he => HY.out w' (below_step HBV.out hb) hlt HNK.out he
    have HNF : Hid (diskN ⟨ck, cm, csh, cst, csl⟩ ≠ (N : Int) → ∀ j : Nat, j < k + 1 → diskN (hdC A id (j : Int)) ≠ (N : Int)) := show _ → ∀ j : Nat, _ → _ from fun hne j hj => by
      by_cases e : j = k
      · rw [e, HCE.out]; exact hne
      · exact HNK.out j (by omega)
    obtain ⟨k0, k1, k2, k3, k4, k5, k6⟩ := HKC.out V (Below.refl _ _)
    have HFZ : Hid (∀ W, Below V.heap.size V W → (W.frozen? ⟨pv, 1, none⟩ = false ∧ W.frozen? ⟨pv, 2, none⟩ = false ∧ W.frozen? ⟨pv, 3, none⟩ = false ∧ W.frozen? ⟨pv, 4, none⟩ = false ∧ W.frozen? ⟨pv, 5, none⟩ = false) ∧ W.cell? ⟨pv, 1, none⟩ = some (.int .i64 c.k) ∧ W.cell? ⟨pv, 2, none⟩ = some (.int .i64 c.m) ∧ W.cell? ⟨pv, 3, none⟩ = some (.int .i64 c.sh) ∧ W.cell? ⟨pv, 4, none⟩ = some (.int .i64 c.st) ∧ W.cell? ⟨pv, 5, none⟩ = some (.int .i64 c.sl)) := show ∀ W, _ → _ from fun W hW => by
      have r := (H0.out.below (below_step HBV.out hW)).row
      exact ⟨⟨r.frozen, r.frozen, r.frozen, r.frozen, r.frozen⟩, r.cell rfl, r.cell rfl, r.cell rfl, r.cell rfl, r.cell rfl⟩
    have HBV' : Hid (∀ W, Below V.heap.size V W → Below w.heap.size w W) := show ∀ W, _ → _ from fun W hW => below_step HBV.out hW
    unfold layS at HYF
    dsimp only at HYF
    generalize diskN ⟨ck, cm, csh, cst, csl⟩ = dn at CC1 HYF HNF
    clear b1 hV C1 CC CD CH HX0 HNO HYE HRV HCE HY HNK k0
    by_cases hdn : dn = (N : Int)
    · have hde : (dn == (N : Int)) = true := by rw [hdn]; simp
      go_wp2_with fail
      go_region_held3 (fun W => Below V.heap.size V W ∧ W.cell? ⟨pv, 0, none⟩ = some (.pointer (some ⟨pa, 0, none⟩)) ∧ W.cell? ⟨w1.heap.size, 0, none⟩ = some (.int .i64 ck) ∧ W.cell? ⟨w1.heap.size, 1, none⟩ = some (.int .i64 cm) ∧ W.cell? ⟨w1.heap.size, 2, none⟩ = some (.int .i64 csh) ∧ W.cell? ⟨w1.heap.size, 3, none⟩ = some (.int .i64 cst) ∧ W.cell? ⟨w1.heap.size, 4, none⟩ = some (.int .i64 csl))
        (first | exact HKC.out _ HBD.out | exact HKC.out _ (Hid.out (by assumption)))
        (first
          | (go_at_call 34; refine Calls.mono (CC1.out _ (And.left (by assumption))) ?_; rintro e w2 ⟨rfl, z2⟩; have Z2 : Hid (Below V.heap.size V w2) := z2; clear z2)
          | (go_at_call 33; refine Calls.mono (CD1.out _ Z2.out) ?_; rintro e w3 ⟨rfl, y2⟩; have Y2 : Hid (Below V.heap.size V w3) := y2; clear y2))
      all_goals (
        obtain ⟨_, m0, m1, m2, m3, m4, m5⟩ := HKC.out w3 Y2.out
        obtain ⟨⟨f1, f2, f3, f4, f5⟩, g1, g2, g3, g4, g5⟩ := HFZ.out w3 Y2.out
        have F := show Hid (P _ _) from HYF.out w3 Y2.out hdn
        clear HYF HNF HKC HFZ CC1 CD1 hde hdn hva k1 k2 k3 k4 k5 k6
        go_wp2
        exact F.out)
    · have hde : (dn == (N : Int)) = false := by rw [beq_eq_false_iff_ne]; exact hdn
      go_wp2_with fail
      go_region_held3 (fun W => Below V.heap.size V W ∧ W.cell? ⟨pv, 0, none⟩ = some (.pointer (some ⟨pa, 0, none⟩)) ∧ W.cell? ⟨w1.heap.size, 0, none⟩ = some (.int .i64 ck) ∧ W.cell? ⟨w1.heap.size, 1, none⟩ = some (.int .i64 cm) ∧ W.cell? ⟨w1.heap.size, 2, none⟩ = some (.int .i64 csh) ∧ W.cell? ⟨w1.heap.size, 3, none⟩ = some (.int .i64 cst) ∧ W.cell? ⟨w1.heap.size, 4, none⟩ = some (.int .i64 csl))
        (first | exact HKC.out _ HBD.out | exact HKC.out _ (Hid.out (by assumption)))
        (first
          | (go_at_call 34; refine Calls.mono (CC1.out _ (And.left (by assumption))) ?_; rintro e w2 ⟨rfl, z2⟩; have Z2 : Hid (Below V.heap.size V w2) := z2; clear z2)
          | (go_at_call 33; refine Calls.mono (CD1.out _ Z2.out) ?_; rintro e w3 ⟨rfl, y2⟩; have Y2 : Hid (Below V.heap.size V w3) := y2; clear y2))
      all_goals (
        go_wp2
        go_roundw
        case rel => exact ⟨k + 1, by omega, by go_num, HNF.out hdn, HBV'.out w3 Y2.out⟩
        case measure => simp [RowKit.intOf]; omega)
end Go.Proofs.YtbmjcnmgignaoaaGreatDoor

/- What Conf and Seq return. -/
namespace Go.Proofs.YtbmjcnmgignaoaaGreatDoor
open Go.RowKit Vecm Opened Wirem Txt Frm Diskm Arym Volm Wrm Intm Tab
open Blkm (Bk bk0 owE owB sealE sealS)
open Cfm (Cf)
open Crcm (bys)
set_option linter.unusedVariables false

set_option maxRecDepth 100000 in
theorem vseq_any {w : World} {pv pa : Nat} {fp : List Nat} {A : Ar} {c : Cf} {id seq : Int} (h : IsW w pv pa fp A c id seq) :
    Calls Tryz.prog 11 #[.pointer (some ⟨pv, 0, none⟩)] w fun e w' => e = .returned (.int .i64 seq) ∧ w' = w := by
  have x7 : w.cell? ⟨pv, 7, none⟩ = some (.int .i64 seq) := h.row.cell rfl
  clear h
  go_enter Tryz.func11, Tryz.ntmps11
  go_wp2
  go_ret
  exact ⟨rfl, rfl⟩

set_option maxRecDepth 100000 in
set_option maxHeartbeats 1000000 in
theorem vconf_any {w : World} {pv pa : Nat} {fp : List Nat} {A : Ar} {c : Cf} {id seq : Int} (h : IsW w pv pa fp A c id seq) :
    Calls Tryz.prog 12 #[.pointer (some ⟨pv, 0, none⟩)] w fun e w' => e = .returned (.agg (cfC c)) ∧ Below w.heap.size w w' := by
  have HB0 : Hid (Below w.heap.size w (w.alloc (.cells zc5 33))) := (Below.refl _ _).alloc (Nat.le_refl _) _
  have HR0 : Hid (Row (w.alloc (.cells zc5 33)) w.heap.size 33 zc5) := Row.new _ _ _
  have r := (h.below HB0.out).row
  obtain ⟨k, m, sh, st, sl⟩ := c
  rw [cfC]
  dsimp only
  have x1 : (w.alloc (.cells zc5 33)).cell? ⟨pv, 1, none⟩ = some (.int .i64 k) := r.cell rfl
  have x2 : (w.alloc (.cells zc5 33)).cell? ⟨pv, 2, none⟩ = some (.int .i64 m) := r.cell rfl
  have x3 : (w.alloc (.cells zc5 33)).cell? ⟨pv, 3, none⟩ = some (.int .i64 sh) := r.cell rfl
  have x4 : (w.alloc (.cells zc5 33)).cell? ⟨pv, 4, none⟩ = some (.int .i64 st) := r.cell rfl
  have x5 : (w.alloc (.cells zc5 33)).cell? ⟨pv, 5, none⟩ = some (.int .i64 sl) := r.cell rfl
  unfold zc5 at x1 x2 x3 x4 x5
  clear h r
  go_enter Tryz.func12, Tryz.ntmps12
  go_wp2_with (refine wpList_store_row rfl 33 _ _ rfl w.heap.size #[.int .i64 k, .int .i64 m, .int .i64 sh, .int .i64 st, .int .i64 sl] rfl rfl 33 zc5 HR0.out (by kernel_rfl) (by rfl) (cfC_one ⟨k, m, sh, st, sl⟩) ?_)
  (try simp only [Exit.inBlock, Exit.then])
  refine bodyPost_ret (v := .agg #[.int .i64 k, .int .i64 m, .int .i64 sh, .int .i64 st, .int .i64 sl]) (results_cell_row (p := 2) rfl _ _ w.heap.size 33 #[.int .i64 k, .int .i64 m, .int .i64 sh, .int .i64 st, .int .i64 sl] (0, 0) _ rfl (setRow_heap _ _ _ _ _ _ HR0.out) Tryz.underlying33 rfl (by kernel_rfl)) rfl ⟨rfl, below_setRow HB0.out (Nat.le_refl _) _⟩
end Go.Proofs.YtbmjcnmgignaoaaGreatDoor

/- What Make puts, as plain functions (its walk is not done). -/
namespace Go.Proofs.YtbmjcnmgignaoaaGreatDoor
open Go.RowKit Vecm Opened Wirem Txt Frm Diskm Arym Volm Wrm Intm Tab
open Blkm (Bk bk0 owE owB sealE sealS)
open Cfm (Cf)
open Crcm (bys)
set_option linter.unusedVariables false

/-- What Make puts: heads, then each stripe's first shards. -/
def mkStep (c : Cf) (id : Int) (x : Ar × Int) (W : List Int) (n : Nat) : Ar × Int := pts (er1 x (slE id (Cfm.stripeN c (n : Int)) 0 (shX c ⟨#[]⟩) W)) (slL id (Cfm.stripeN c (n : Int)) 0 (shX c ⟨#[]⟩) W)
def mkF (c : Cf) (id : Int) (W : List Int) (x : Ar × Int) : Nat → Ar × Int
  | 0 => pts (er1 x (hdE c id W)) (hdSs c id W)
  | n + 1 => mkStep c id (mkF c id W x n) W n
def mkX (A : Ar) (c : Cf) (id : Int) : Ar × Int := flu (mkF c id (wrk A (dsN c)) (A, 0) c.st.toNat)
end Go.Proofs.YtbmjcnmgignaoaaGreatDoor

/- What intent's Read returns. -/
namespace Go.Proofs.YtbmjcnmgignaoaaGreatDoor
open Go.RowKit Vecm Opened Wirem Txt Frm Blkm Intm
open Crcm (bys)
set_option linter.unusedVariables false

set_option maxRecDepth 100000 in
set_option maxHeartbeats 400000 in
theorem slint_any (s : ByteArray) (w : World) :
    Calls Tryz.prog 151 #[.string s, .string ⟨#[73, 78, 84]⟩] w fun e w' => e = .returned (.bool (mrkB s)) ∧ w' = w := by
  by_cases h : s.size < 3
  · have hc : ¬ (3 : Int) ≤ (s.size : Int) := by omega
    have hd : decide ((3 : Int) ≤ (s.size : Int)) = false := decide_eq_false hc
    rw [mrkB_short h]
    clear h
    go_enter Tryz.func151, Tryz.ntmps151
    go_wp2
    go_ret
    exact ⟨rfl, rfl⟩
  have hc2 : (3 : Int) ≤ (s.size : Int) := by omega
  clear h
  by_cases hp : mrkB s = true
  · have e : s.extract 0 3 = ⟨#[73, 78, 84]⟩ := mrkB_iff.1 hp
    rw [hp]
    clear hp
    go_enter Tryz.func151, Tryz.ntmps151
    go_wp2
    go_ret
    exact ⟨rfl, rfl⟩
  · have e : ((s.extract 0 3).toList == [73, 78, 84]) = false := by
      have e := ne_lists (fun x => hp (mrkB_iff.2 x))
      rw [show mrk = ⟨#[73, 78, 84]⟩ from rfl, Lib.toList_data ⟨#[73, 78, 84]⟩] at e
      exact e
    rw [Bool.not_eq_true] at hp
    rw [hp]
    clear hp
    go_enter Tryz.func151, Tryz.ntmps151
    go_wp2
    go_ret
    exact ⟨rfl, rfl⟩

set_option maxRecDepth 100000 in
set_option maxHeartbeats 400000 in
theorem isltrim_any (s : ByteArray) (w : World) (hs : s.size ≤ 140737488355328) :
    Calls Tryz.prog 139 #[.string s, .string ⟨#[73, 78, 84]⟩] w fun e w' => e = .returned (.string (trm s)) ∧ Below w.heap.size w w' := by
  have HP : Hid (_) := slint_any s w
  by_cases hp : mrkB s = true
  · have hc2 : (3 : Int) ≤ (s.size : Int) := by
      by_cases h : s.size < 3
      · rw [mrkB_short h] at hp; cases hp
      · omega
    rw [trm, if_pos hp]
    rw [hp] at HP
    clear hp
    go_enter Tryz.func139, Tryz.ntmps139
    go_wp2_with fail
    refine same HP.out ?_
    go_wp2
    go_ret
    exact ⟨rfl, Below.refl _ _⟩
  · rw [trm, if_neg hp]
    rw [Bool.not_eq_true] at hp
    rw [hp] at HP
    clear hp
    go_enter Tryz.func139, Tryz.ntmps139
    go_wp2_with fail
    refine same HP.out ?_
    go_wp2
    go_ret
    exact ⟨rfl, Below.refl _ _⟩

theorem trimint_any (s : ByteArray) (w : World) (hs : s.size ≤ 140737488355328) :
    Calls Tryz.prog 103 #[.string s, .string ⟨#[73, 78, 84]⟩] w fun e w' => e = .returned (.string (trm s)) ∧ Below w.heap.size w w' := by
  have hc := isltrim_any s w hs
  generalize trm s = R at hc ⊢
  go_enter Tryz.func103, Tryz.ntmps103
  go_wp2_with fail
  refine Calls.mono hc ?_
  rintro e w1 ⟨rfl, hb1⟩
  go_wp2
  go_ret
  exact ⟨rfl, hb1⟩

/-- What stands behind yet, in a cell of its own. -/
def ReadAt (W : World) (B : Nat) (r : ByteArray) : Prop := Row W B 9 #[.string r]
def NextP (W : World) (B : Nat) (r : ByteArray) (k : Int) (e : Ending) (w' : World) : Prop :=
  e = .returned (.int .i64 (cutN r k)) ∧ Fr [B] W w' ∧ ReadAt w' B (cutS r k)

set_option maxRecDepth 100000 in
set_option maxHeartbeats 1000000 in
theorem ireadnext_any (W : World) (B : Nat) (r : ByteArray) (k : Int) (h : ReadAt W B r) (hz : r.size ≤ 9223372036854775807) :
    Calls Tryz.prog 178 #[.int .i64 k, .pointer (some ⟨B, 0, none⟩)] W (NextP W B r k) := by
  have hc : W.cell? ⟨B, 0, none⟩ = some (.string r) := h.cell rfl
  have HH : Hid (ReadAt W B r) := h
  clear h
  go_enter Tryz.func178, Tryz.ntmps178
  go_wp2_with fail
  refine Calls.mono (cut_any r k _ hz) ?_
  rintro e w1 ⟨rfl, hb⟩
  have hf : Fr [] W w1 := Fr.of_below hb
  have hr : Row w1 B 9 #[.string r] := HH.out.kept hf (by simp)
  have hc1 : w1.cell? ⟨B, 0, none⟩ = some (.string r) := hr.cell rfl
  have hz1 : w1.frozen? ⟨B, 0, none⟩ = false := hr.frozen
  have HD : Hid (NextP W B r k (.returned (.int .i64 (cutN r k))) (w1.setCell ⟨B, 0, none⟩ (.string (cutS r k)))) :=
    show NextP _ _ _ _ _ _ from ⟨rfl, (hf.mono (fq := [B]) (by simp)).setCell (.inl (by simp)) _, Row.set hr 0 _⟩
  clear hf hr hb hc HH
  unfold cutV
  go_wp2
  go_ret
  exact HD.out

def ReadP (w : World) (s : ByteArray) (e : Ending) (w' : World) : Prop := e = .returned (.tuple #[.agg (itC (rdI s)), .int .i64 (rdE s)]) ∧ Below w.heap.size w w'
def z3 : Array Value := #[.int .i64 0, .int .i64 0, .string ⟨#[]⟩]
theorem ReadP.no {w : World} {s : ByteArray} (h : ¬ okI s = true) {w' : World} (hb : Below w.heap.size w w') : ReadP w s (.returned (.tuple #[.agg z3, .int .i64 5])) w' := by
  refine ⟨?_, hb⟩
  rw [rdI_no h, rdE_no h]
  rfl
set_option maxRecDepth 100000 in
theorem load_it (w : World) (g : Nat) (cs : Array Value) (h : Row w g 75 cs) (hz : cs.size = 3) : (loadVar 75 ⟨g, 0, none⟩).run Tryz.prog w = .ok (.agg cs) w :=
  run_loadVar_row w g 75 75 cs (0, 0) _ h Tryz.underlying75 rfl (by rw [hz]; kernel_rfl)
theorem itC_one (b : It) : (itC b).all (·.oneCell') = true := by
  rw [Array.all_eq_true_iff_forall_mem]
  intro v hv
  simp only [itC, List.mem_toArray, List.mem_cons, List.not_mem_nil, or_false] at hv
  rcases hv with rfl | rfl | rfl <;> rfl

/-- Whatever Read has found yet. -/
def Red (w W : World) (B : Nat) (r : ByteArray) : Prop := Below w.heap.size w W ∧ ReadAt W B r ∧ w.heap.size < B ∧ Row W w.heap.size 75 z3
theorem Red.cut {w W W' : World} {B : Nat} {r : ByteArray} {k : Int} {e : Ending} (h : Red w W B r) (hc : NextP W B r k e W') : Red w W' B (cutS r k) :=
  ⟨h.1.trans (hc.2.1.below (fun i hi => by simp only [List.mem_singleton] at hi; subst hi; exact Nat.le_of_lt h.2.2.1) h.1.size), hc.2.2, h.2.2.1, h.2.2.2.kept hc.2.1 (by simp only [List.mem_singleton]; have := h.2.2.1; omega)⟩

set_option maxRecDepth 100000 in
set_option maxHeartbeats 2000000 in
theorem iread_any (s : ByteArray) (w : World) (hs : s.size ≤ 140737488355328) : Calls Tryz.prog 145 #[.string s] w (ReadP w s) := by
  have hmf : ∀ (fn : Fn) (first cap : Array Value) (w : World), (Instr.makeFunc fn first cap).run Tryz.prog w = .ok (.func fn first cap) w := fun _ _ _ _ => rfl
  have HC : Hid (_) := fun (W : World) => trimint_any s W hs
  have q0 := trm_small s
  have q1 := c1_small s
  have q2 := c2_small s
  obtain ⟨b1, b2, b3⟩ := rdR_small s
  have HK : Hid (∀ (W : World) (B : Nat) (r r' : ByteArray) (k : Int), r.size ≤ 9223372036854775807 → cutS r k = r' → Red w W B r → Calls Tryz.prog 178 #[.int .i64 k, .pointer (some ⟨B, 0, none⟩)] W fun e w' => e = .returned (.int .i64 (cutN r k)) ∧ Red w w' B r') :=
    show ∀ W B r r' k, _ → _ → _ → _ from fun W B r r' k hr e hW => (ireadnext_any W B r k hW.2.1 hr).mono fun e1 w' hw => ⟨hw.1, e ▸ hW.cut hw⟩
  have K1 : Hid (∀ W B, Red w W B (trm s) → Calls Tryz.prog 178 #[.int .i64 7, .pointer (some ⟨B, 0, none⟩)] W fun e w' => e = .returned (.int .i64 (rdR s).seq) ∧ Red w w' B (c1 s)) := show ∀ W B, _ → _ from fun W B => by rw [rdR_seq]; exact HK.out W B (trm s) (c1 s) 7 (by omega) (c1_eq s)
  have K2 : Hid (∀ W B, Red w W B (c1 s) → Calls Tryz.prog 178 #[.int .i64 2, .pointer (some ⟨B, 0, none⟩)] W fun e w' => e = .returned (.int .i64 (rdR s).stripe) ∧ Red w w' B (c2 s)) := show ∀ W B, _ → _ from fun W B => by rw [rdR_stripe]; exact HK.out W B (c1 s) (c2 s) 2 (by omega) (c2_eq s)
  have KT : Hid (∀ W, Calls Tryz.prog 175 #[.string (c2 s)] W fun e w' => e = .returned (.tuple #[.string (rdR s).text, .string (takeR (c2 s)), .int .i64 (takeE (c2 s))]) ∧ Below W.heap.size W w') := show ∀ W, _ from fun W => by rw [rdR_text]; exact take_any (c2 s) W (by omega)
  have KW : Hid (∀ W, Calls Tryz.prog 79 #[.agg (itC (rdR s))] W fun e w' => e = .returned (.tuple #[.string (wrS (rdR s)), .int .i64 (wrE (rdR s))]) ∧ Below W.heap.size W w') := show ∀ W, _ from fun W => iwrite_any (rdR s) W ⟨by omega, by omega, by omega⟩
  have HBV : Hid (Below w.heap.size w (w.alloc (.cells z3 75))) := (Below.refl _ _).alloc (Nat.le_refl _) _
  have HRV : Hid (Row (w.alloc (.cells z3 75)) w.heap.size 75 z3) := Row.new _ _ _
  have HOK : Hid (okI s = true ↔ wrE (rdR s) = 0 ∧ wrS (rdR s) = s) := show _ ↔ _ from okI_iff
  have HRI : Hid (okI s = true → ∀ w', Below w.heap.size w w' → ReadP w s (.returned (.tuple #[.agg (itC (rdR s)), .int .i64 0])) w') := show _ → _ from fun h w' hb => ⟨by rw [rdI_yes h, rdE_yes h], hb⟩
  have HNO : Hid (¬ okI s = true → ∀ w', Below w.heap.size w w' → ReadP w s (.returned (.tuple #[.agg z3, .int .i64 5])) w') := show _ → _ from fun h w' hb => ReadP.no h hb
  obtain ⟨R, hR⟩ : ∃ R, R = rdR s := ⟨_, rfl⟩
  rw [← hR] at K1 K2 KT KW HOK HRI
  obtain ⟨n1, n2, T⟩ := R
  generalize takeR (c2 s) = TR at KT
  generalize takeE (c2 s) = TE at KT
  generalize wrS ⟨n1, n2, T⟩ = Y at KW HOK
  generalize wrE ⟨n1, n2, T⟩ = E at KW HOK
  generalize c2 s = S2 at K2 KT
  generalize c1 s = S1 at K1 K2
  generalize trm s = S0 at K1 HC
  dsimp only at K1 K2 KT
  clear hR q0 q1 q2 b1 b2 b3 HK
  have HOKI : Hid (_) := HOK.out
  clear HOK
  go_enter Tryz.func145, Tryz.ntmps145
  go_wp2_with fail
  refine Calls.mono (HC.out _) ?_
  rintro e w1 ⟨rfl, hb⟩
  have O1 : Hid (Red w (w1.alloc (.cells #[.string S0] 9)) w1.heap.size S0) := by
    have hB : Below w.heap.size w w1 := HBV.out.trans (hb.mono HBV.out.size)
    have hR : Row w1 w.heap.size 75 z3 := HRV.out.kept (Fr.of_below (fp := []) hb) (by simp)
    exact show Red _ _ _ _ from ⟨hB.alloc hB.size _, Row.new _ _ _, hR.lt, hR.alloc _⟩
  clear hb HBV HRV HC
  go_wp2_with fail
  refine Calls.mono (K1.out _ _ O1.out) ?_
  rintro e w2 ⟨rfl, ho⟩
  have O2 := show Hid (Red _ _ _ _) from ho
  clear ho O1 K1
  go_wp2_with fail
  refine Calls.mono (K2.out _ _ O2.out) ?_
  rintro e w3 ⟨rfl, ho⟩
  have O5 := show Hid (Red _ _ _ _) from ho
  have hc5 : ∀ o, (w3.alloc o).cell? ⟨w1.heap.size, 0, none⟩ = some (.string S2) := fun o => (ho.2.1.alloc o).cell rfl
  clear ho O2 K2
  go_wp2_with fail
  refine Calls.mono (KT.out _) ?_
  rintro e w6 ⟨rfl, hb⟩
  obtain ⟨G, hG⟩ : ∃ G, G = w3.heap.size := ⟨_, rfl⟩
  have HB6 : Hid (Below w.heap.size w w6) := show Below _ _ _ from (O5.out.1.alloc O5.out.1.size _).trans (hb.mono (Nat.le_trans O5.out.1.size (by simp)))
  have HR6 : Hid (Row w6 w.heap.size 75 z3) := show Row _ _ _ _ from (O5.out.2.2.2.alloc _).kept (Fr.of_below (fp := []) hb) (by simp)
  have hg6 : Row w6 G 75 #[.int .i64 n1, .int .i64 n2, .string ⟨#[]⟩] := by rw [hG]; exact (Row.new w3 _ _).kept (Fr.of_below (fp := []) hb) (by simp)
  have HGN : Hid (w.heap.size < G) := show _ < _ from by rw [hG]; exact O5.out.2.2.2.lt
  rw [← hG]
  clear hb hc5 O5 KT hG
  have hct : w6.cell? ⟨G, 2, none⟩ = some (.string ⟨#[]⟩) := hg6.cell rfl
  have hzt : w6.frozen? ⟨G, 2, none⟩ = false := hg6.frozen
  have hg7 : Row (w6.setCell ⟨G, 2, none⟩ (.string T)) G 75 #[.int .i64 n1, .int .i64 n2, .string T] := Row.set hg6 2 (.string T)
  have HR7 : Hid (Row (w6.setCell ⟨G, 2, none⟩ (.string T)) w.heap.size 75 z3) := show Row _ _ _ _ from HR6.out.other (by have := HGN.out; omega) _
  have HB7 : Hid (Below w.heap.size w (w6.setCell ⟨G, 2, none⟩ (.string T))) := show Below _ _ _ from HB6.out.setCell (by have := HGN.out; show w.heap.size ≤ G; omega) _
  have HG7 : Hid (Row (w6.setCell ⟨G, 2, none⟩ (.string T)) G 75 #[.int .i64 n1, .int .i64 n2, .string T]) := hg7
  clear hg6 hg7 HB6 HR6
  rw [itC] at KW HRI
  dsimp only at KW HRI
  go_wp2_with (first | (refine wpList_load_row rfl 75 _ rfl G rfl 75 #[.int .i64 n1, .int .i64 n2, .string T] (0, 0) _ HG7.out Tryz.underlying75 rfl (by kernel_rfl) ?_) | fail)
  refine Calls.mono (KW.out _) ?_
  rintro e w8 ⟨rfl, hb⟩
  have HB8 : Hid (Below w.heap.size w w8) := show Below _ _ _ from HB7.out.trans (hb.mono HB7.out.size)
  have HR8 : Hid (Row w8 w.heap.size 75 z3) := show Row _ _ _ _ from HR7.out.kept (Fr.of_below (fp := []) hb) (by simp)
  have HG8 : Hid (Row w8 G 75 #[.int .i64 n1, .int .i64 n2, .string T]) := show Row _ _ _ _ from HG7.out.kept (Fr.of_below (fp := []) hb) (by simp)
  clear hb HB7 HR7 HG7 KW hct hzt
  by_cases c1 : E = 0
  case neg =>
    have hne : (E != 0) = true := by rw [bne_iff_ne]; exact c1
    have HF := show Hid (_) from HNO.out (fun x => c1 (HOKI.out.1 x).1)
    clear c1
    go_wp2_with (refine wpList_store_row rfl 75 _ _ rfl w.heap.size z3 rfl rfl 75 z3 HR8.out (by kernel_rfl) (by rfl) (itC_one it0) ?_)
    (try simp only [Exit.inBlock, Exit.then])
    refine bodyPost_ret (v := .tuple #[.agg z3, .int .i64 5]) (results_row_tmp (p := 2) (u := 3) rfl _ _ w.heap.size z3 rfl (load_it _ _ _ (setRow_heap _ _ _ _ _ _ HR8.out) rfl)) rfl (HF.out _ (below_setRow HB8.out (Nat.le_refl _) _))
  by_cases c : Y = s
  · have HF := show Hid (_) from HRI.out (HOKI.out.2 ⟨c1, c⟩)
    subst c1 c
    go_wp2_with (first
      | (refine wpList_load_row rfl 75 _ rfl G rfl 75 #[.int .i64 n1, .int .i64 n2, .string T] (0, 0) _ HG8.out Tryz.underlying75 rfl (by kernel_rfl) ?_)
      | (refine wpList_store_row rfl 75 _ _ rfl w.heap.size #[.int .i64 n1, .int .i64 n2, .string T] rfl rfl 75 z3 HR8.out (by kernel_rfl) (by rfl) (itC_one ⟨n1, n2, T⟩) ?_))
    (try simp only [Exit.inBlock, Exit.then])
    refine bodyPost_ret (v := .tuple #[.agg #[.int .i64 n1, .int .i64 n2, .string T], .int .i64 0]) (results_row_tmp (p := 2) (u := 3) rfl _ _ w.heap.size #[.int .i64 n1, .int .i64 n2, .string T] rfl (load_it _ _ _ (setRow_heap _ _ _ _ _ _ HR8.out) rfl)) rfl (HF.out _ (below_setRow HB8.out (Nat.le_refl _) _))
  · have HF := show Hid (_) from HNO.out (fun x => c (HOKI.out.1 x).2)
    have hne : (Y.toList == s.toList) = false := ne_lists c
    subst c1
    clear c
    go_wp2_with (refine wpList_store_row rfl 75 _ _ rfl w.heap.size z3 rfl rfl 75 z3 HR8.out (by kernel_rfl) (by rfl) (itC_one it0) ?_)
    (try simp only [Exit.inBlock, Exit.then])
    refine bodyPost_ret (v := .tuple #[.agg z3, .int .i64 5]) (results_row_tmp (p := 2) (u := 3) rfl _ _ w.heap.size z3 rfl (load_it _ _ _ (setRow_heap _ _ _ _ _ _ HR8.out) rfl)) rfl (HF.out _ (below_setRow HB8.out (Nat.le_refl _) _))
end Go.Proofs.YtbmjcnmgignaoaaGreatDoor

/- What the document's Read returns; the calls that turn one's intents into the other's. -/
namespace Go.Proofs.YtbmjcnmgignaoaaGreatDoor
open Go.RowKit Vecm Opened Wirem Txt Frm Blkm Intm
open Crcm (bys)
set_option linter.unusedVariables false

end Go.Proofs.YtbmjcnmgignaoaaGreatDoor
