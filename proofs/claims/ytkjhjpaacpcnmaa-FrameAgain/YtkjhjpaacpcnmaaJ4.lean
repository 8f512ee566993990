/- What the program's Read of a group returns. -/
import Derived.Test.YtkjhjpaacpcnmaaJ3
import Derived.Lib.SmallJoins

namespace Go.Proofs.Ytkjhjpaacpcnmaa
open Go.RowKit Vecm Opened Wirem Txt Frm Blkm Grpm
open Crcm (bys)
set_option linter.unusedVariables false

theorem results_row_tmp2 {fn : Func} {p u v : Tmp} {ty : TypeId} {P : Program} (h : fn.results = #[.cell p ty, .tmp u, .tmp v]) (tmps : Array Value) (w : World) (g : Nat) (cs : Array Value)
    (hp : tmps.getD p undef = .pointer (some ⟨g, 0, none⟩)) (hl : (loadVar ty ⟨g, 0, none⟩).run P w = .ok (.agg cs) w) :
    (results fn tmps).run P w = .ok (.tuple #[.agg cs, tmps.getD u undef, tmps.getD v undef]) w := by
  have hp' : tmps[p]?.getD undef = .pointer (some ⟨g, 0, none⟩) := by simpa using hp
  simp only [results, h]
  simp [Result.andThen, hp', asAddr, hl]
def zgr : Array Value := #[.int .i64 0, .slice none 0 0]
theorem zgr_one : zgr.all (·.oneCell') = true := by
  rw [Array.all_eq_true_iff_forall_mem]
  intro v hv
  simp only [zgr, List.mem_toArray, List.mem_cons, List.not_mem_nil, or_false] at hv
  rcases hv with rfl | rfl <;> rfl
theorem grv_one (q : Int) (a : Option Addr) (n c : Nat) : (#[Value.int .i64 q, .slice a n c] : Array Value).all (·.oneCell') = true := by
  rw [Array.all_eq_true_iff_forall_mem]
  intro v hv
  simp only [List.mem_toArray, List.mem_cons, List.not_mem_nil, or_false] at hv
  rcases hv with rfl | rfl <;> rfl
set_option maxRecDepth 100000 in
theorem load_gr (w : World) (g : Nat) (cs : Array Value) (h : Row w g 30 cs) (hz : cs.size = 2) : (loadVar 30 ⟨g, 0, none⟩).run Try.prog w = .ok (.agg cs) w :=
  run_loadVar_row w g 30 30 cs (0, 0) _ h Try.underlying30 rfl (by rw [hz]; kernel_rfl)
/-- What Read returns: a group, what stands behind it, an error. -/
def GrP (w : World) (s : ByteArray) (e : Ending) (w' : World) : Prop :=
  ∃ a n c, e = .returned (.tuple #[.agg #[.int .i64 (rdN s), .slice a n c], .string (rdR s), .int .i64 (rdE s)]) ∧ IsG w' a n (rdL s) ∧ Own3 w' w.heap.size a ∧ Below w.heap.size w w'
theorem GrP.no {w : World} {s : ByteArray} {k : Int} (h : rdE s = k) (hk : k ≠ 0) {w' : World} (hb : Below w.heap.size w w') : GrP w s (.returned (.tuple #[.agg zgr, .string ⟨#[]⟩, .int .i64 k])) w' := by
  have h0 : rdE s ≠ 0 := by rw [h]; exact hk
  refine ⟨none, 0, 0, ?_, ?_, Own3.none _ _, hb⟩
  · rw [rdN_no h0, rdR_no h0, h]; rfl
  · rw [rdL_no h0]; exact IsG.nil _
theorem ex_ex (s : ByteArray) (a b c : Nat) (h : b ≤ a) : (s.extract 0 a).extract c b = s.extract c b := by
  refine bys_inj ?_
  rw [bys_extract, bys_extract, bys_extract, List.drop_zero, List.take_take, Nat.min_eq_left h]
/-- The parts of a group's bytes as the program cuts them. -/
theorem rd_parts {s : ByteArray} (h9 : ¬ s.size < 9) : cutS (s.extract 1 s.size) 4 = s.extract 5 s.size ∧ cutS (s.extract 5 s.size) 4 = s.extract 9 s.size ∧ cutN (s.extract 1 s.size) 4 = rdQ s ∧ cutN (s.extract 5 s.size) 4 = ((rdM s : Nat) : Int) ∧ rdM s ≤ 4294967295 ∧ 0 ≤ rdQ s ∧ rdQ s ≤ 4294967295 := by
  have q1 : cutS (s.extract 1 s.size) 4 = s.extract 5 s.size := cut_from s 1 4 (by omega) (by omega) (by omega)
  have q2 : cutS (s.extract 5 s.size) 4 = s.extract 9 s.size := cut_from s 5 4 (by omega) (by omega) (by omega)
  have n1 := cutN_nat (s.extract 5 s.size)
  have n2 : 0 ≤ rdQ s ∧ rdQ s ≤ 4294967295 := cutN_nat (s.extract 1 s.size)
  have n3 : rdM s = (cutN (s.extract 5 s.size) 4).toNat := rfl
  exact ⟨q1, q2, rfl, by omega, by omega, n2.1, n2.2⟩
theorem rd_sum_iff {s : ByteArray} (hm : ¬ s.size < 13 + rdM s) : smB s = true ↔ sumT ((s.extract 0 (13 + rdM s)).extract 0 (9 + rdM s)) = (s.extract 0 (13 + rdM s)).extract (9 + rdM s) (s.extract 0 (13 + rdM s)).size := by
  rw [smB_iff, rdS, ex_ex _ _ _ _ (by omega), show (s.extract 0 (13 + rdM s)).size = 13 + rdM s by rw [ByteArray.size_extract]; omega, ex_ex _ _ _ _ (Nat.le_refl _), ← mid_eq, show 9 + rdM s + 4 = 13 + rdM s by omega]
  exact eq_comm
theorem rd_again {s : ByteArray} (h0 : fb s = 71) (h13 : ¬ s.size < 13) (hm : ¬ s.size < 13 + rdM s) (hs : smB s = true) :
    (grE (rdQ s) (cof 64 (rdB s)) = 0 ∧ grS (rdQ s) (cof 64 (rdB s)) = s.extract 0 (13 + rdM s) ↔ clB s = true) ∧ (clB s = true → rdE s = 0 ∧ rdL s = cof 64 (rdB s) ∧ rdN s = rdQ s ∧ rdR s = s.extract (13 + rdM s) s.size) := by
  have key : clB s = true → rdE s = 0 ∧ rdL s = cof 64 (rdB s) ∧ rdN s = rdQ s ∧ rdR s = s.extract (13 + rdM s) s.size := fun hc => by
    have he := rd_yes h0 h13 hm hs hc
    obtain ⟨l, h1, h2⟩ := clB_iff.1 hc
    have h3 := cof_pr 64 (rdB s) l (ckE_zero.1 h2).2.1 h1
    exact ⟨he, by rw [rdL, if_pos he, h1, h3]; rfl, if_pos he, if_pos he⟩
  refine ⟨⟨fun ⟨h1, h2⟩ => ?_, fun hc => ?_⟩, key⟩
  · have hr := gr_rd h1 (s.extract (13 + rdM s) s.size)
    rw [h2, cut_join] at hr
    exact (rd_zero hr.1).2.2.2.2
  · obtain ⟨k1, k2, k3, k4⟩ := key hc
    obtain ⟨g1, g2⟩ := rd_gr k1
    rw [k2, k3] at g1 g2
    refine ⟨g1, ?_⟩
    rw [k4] at g2
    have hz := congrArg ByteArray.size g2
    rw [ByteArray.size_append, size_from] at hz
    have := join_to (grS (rdQ s) (cof 64 (rdB s))) (s.extract (13 + rdM s) s.size) (n := 13 + rdM s) (by omega)
    rw [g2] at this
    exact this.symm

set_option maxRecDepth 100000 in
set_option maxHeartbeats 4000000 in
theorem fread_any (s : ByteArray) (w : World) (hs : s.size ≤ 1073741824) : Calls Try.prog 22 #[.string s] w (GrP w s) := by
  have HR : Hid (Row (w.alloc (.cells zgr 30)) w.heap.size 30 zgr) := Row.new _ _ _
  have HB : Hid (Below w.heap.size w (w.alloc (.cells zgr 30))) := (Below.refl _ _).alloc (Nat.le_refl _) _
  by_cases hz : s.size = 0
  · have HF : Hid (∀ w', Below w.heap.size w w' → GrP w s (.returned (.tuple #[.agg zgr, .string ⟨#[]⟩, .int .i64 4])) w') := show ∀ w', _ → _ from fun w' hb => GrP.no (rd_nil hz) (by decide) hb
    obtain rfl := str_none hz
    clear hz hs
    go_enter Try.func22, Try.ntmps22
    go_wp2
    (try simp only [Exit.inBlock, Exit.then])
    refine bodyPost_ret (v := .tuple #[.agg zgr, .string ⟨#[]⟩, .int .i64 4]) (results_row_tmp2 (p := 2) (u := 3) (v := 4) rfl _ _ w.heap.size zgr rfl (load_gr _ _ _ HR.out rfl)) rfl (HF.out _ HB.out)
  have hne : (s.toList == []) = false := str_some hz
  have hpx : hpB s 71 = decide (fb s = 71) := by simp [hpB, hz]
  have HP : Hid (∀ W, Calls Try.prog 41 #[.string s, .string ⟨#[71]⟩] W fun e w' => e = .returned (.bool (hpB s 71)) ∧ w' = W) := show ∀ W, _ from fun W => spre_p71 s W
  rw [hpx] at HP
  clear hpx
  by_cases h71 : fb s = 71
  case neg =>
    have HF : Hid (∀ w', Below w.heap.size w w' → GrP w s (.returned (.tuple #[.agg zgr, .string ⟨#[]⟩, .int .i64 5])) w') := show ∀ w', _ → _ from fun w' hb => GrP.no (rd_form hz h71) (by decide) hb
    have hd : decide (fb s = 71) = false := decide_eq_false h71
    rw [hd] at HP
    clear hz hs h71 hd
    go_enter Try.func22, Try.ntmps22
    go_wp2_with (first | (go_at_call 41; refine same (HP.out _) ?_) | fail)
    go_wp2
    (try simp only [Exit.inBlock, Exit.then])
    refine bodyPost_ret (v := .tuple #[.agg zgr, .string ⟨#[]⟩, .int .i64 5]) (results_row_tmp2 (p := 2) (u := 3) (v := 4) rfl _ _ w.heap.size zgr rfl (load_gr _ _ _ HR.out rfl)) rfl (HF.out _ HB.out)
  have hd : decide (fb s = 71) = true := decide_eq_true h71
  rw [hd] at HP
  clear hd
  by_cases h9 : s.size < 9
  · have HF : Hid (∀ w', Below w.heap.size w w' → GrP w s (.returned (.tuple #[.agg zgr, .string ⟨#[]⟩, .int .i64 4])) w') := show ∀ w', _ → _ from fun w' hb => GrP.no (rd_short hz h71 (by omega)) (by decide) hb
    have h9i : (s.size : Int) < 9 := by omega
    clear hz hs h71 h9
    go_enter Try.func22, Try.ntmps22
    go_wp2_with (first | (go_at_call 41; refine same (HP.out _) ?_) | fail)
    go_wp2
    (try simp only [Exit.inBlock, Exit.then])
    refine bodyPost_ret (v := .tuple #[.agg zgr, .string ⟨#[]⟩, .int .i64 4]) (results_row_tmp2 (p := 2) (u := 3) (v := 4) rfl _ _ w.heap.size zgr rfl (load_gr _ _ _ HR.out rfl)) rfl (HF.out _ HB.out)
  have h9i : ¬ (s.size : Int) < 9 := by omega
  have hc1 : (1 : Int) ≤ (s.size : Int) := by omega
  obtain ⟨p1, p2, p3, p4, p5, p6, p7⟩ := rd_parts h9
  have HCU : Hid (∀ (r : ByteArray) W, r.size ≤ 1073741824 → Calls Try.prog 42 #[.string r, .int .i64 4] W fun e w' => e = .returned (.tuple #[.int .i64 (cutN r 4), .string (cutS r 4), .int .i64 (cutE r 4)]) ∧ Below W.heap.size W w') := show ∀ r W, _ → _ from fun r W hr => cut_any r 4 W (by omega)
  obtain ⟨M, hM⟩ : ∃ M, M = rdM s := ⟨_, rfl⟩
  obtain ⟨Q, hQ⟩ : ∃ Q, Q = rdQ s := ⟨_, rfl⟩
  obtain ⟨S1, hS1⟩ : ∃ S, S = s.extract 1 s.size := ⟨_, rfl⟩
  obtain ⟨S5, hS5⟩ : ∃ S, S = s.extract 5 s.size := ⟨_, rfl⟩
  obtain ⟨S9, hS9⟩ : ∃ S, S = s.extract 9 s.size := ⟨_, rfl⟩
  have z1 : S1.size ≤ s.size := by rw [hS1, size_from]; omega
  have z5 : S5.size ≤ s.size := by rw [hS5, size_from]; omega
  have z9 : S9.size + 9 = s.size := by rw [hS9, size_from]; omega
  have HC1 : Hid (∀ W, ∃ E : Int, Calls Try.prog 42 #[.string S1, .int .i64 4] W fun e w' => e = .returned (.tuple #[.int .i64 Q, .string S5, .int .i64 E]) ∧ Below W.heap.size W w') := show ∀ W, _ from fun W => ⟨_, by have := HCU.out S1 W (by omega); rw [hS1, p1, p3, ← hS5, ← hQ, ← hS1] at this; exact this⟩
  have HC5 : Hid (∀ W, ∃ E : Int, Calls Try.prog 42 #[.string S5, .int .i64 4] W fun e w' => e = .returned (.tuple #[.int .i64 (M : Int), .string S9, .int .i64 E]) ∧ Below W.heap.size W w') := show ∀ W, _ from fun W => ⟨_, by have := HCU.out S5 W (by omega); rw [hS5, p2, p4, ← hS9, ← hM, ← hS5] at this; exact this⟩
  rw [← hM] at p5
  rw [← hQ] at p6 p7
  have HS1 : Hid (S1 = s.extract 1 s.size) := hS1
  have HM : Hid (M = rdM s) := hM
  have HQ : Hid (Q = rdQ s) := hQ
  have hS1' := hS1.symm
  clear p1 p2 p3 p4 hM hQ hS1 hS5 hS9 HCU h9 z1 z5
  by_cases hm : s.size < 13 + M
  · have HF : Hid (∀ w', Below w.heap.size w w' → GrP w s (.returned (.tuple #[.agg zgr, .string ⟨#[]⟩, .int .i64 4])) w') := show ∀ w', _ → _ from fun w' hb => GrP.no (by
      by_cases h13 : s.size < 13
      · exact rd_short hz h71 h13
      · exact rd_less h71 h13 (by rw [← HM.out]; exact hm)) (by decide) hb
    have hlt : (S9.size : Int) - 4 < (M : Int) := by omega
    obtain ⟨E1, HD1⟩ := HC1.out (w.alloc (.cells zgr 30))
    have HD1' := show Hid (_) from HD1
    clear hz hs h71 hm HD1 HC1
    go_enter Try.func22, Try.ntmps22
    go_wp2_with (first | (go_at_call 41; refine same (HP.out _) ?_) | fail)
    refine Calls.mono HD1'.out ?_
    rintro e w1 ⟨rfl, hb⟩
    have HR1 : Hid (Row w1 w.heap.size 30 zgr) := HR.out.kept (Fr.of_below (fp := []) hb) (by simp)
    have HB1 : Hid (Below w.heap.size w w1) := HB.out.trans (hb.mono HB.out.size)
    obtain ⟨E2, HD2⟩ := HC5.out w1
    have HD2' := show Hid (_) from HD2
    clear hb HR HB HD1' HP HC5 HD2
    go_wp2_with fail
    refine Calls.mono HD2'.out ?_
    rintro e w2 ⟨rfl, hb⟩
    have HR : Hid (Row w2 w.heap.size 30 zgr) := HR1.out.kept (Fr.of_below (fp := []) hb) (by simp)
    have HB : Hid (Below w.heap.size w w2) := HB1.out.trans (hb.mono HB1.out.size)
    clear hb HR1 HB1 HD2'
    go_wp2_with (refine wpList_store_row rfl 30 _ _ rfl w.heap.size zgr rfl rfl 30 zgr HR.out (by kernel_rfl) (by rfl) zgr_one ?_)
    (try simp only [Exit.inBlock, Exit.then])
    refine bodyPost_ret (v := .tuple #[.agg zgr, .string ⟨#[]⟩, .int .i64 4]) (results_row_tmp2 (p := 2) (u := 3) (v := 4) rfl _ _ w.heap.size zgr rfl (load_gr _ _ _ (setRow_heap _ _ _ _ _ _ HR.out) rfl)) rfl (HF.out _ (below_setRow HB.out (Nat.le_refl _) _))
  have hm' : ¬ s.size < 13 + rdM s := by rw [← HM.out]; exact hm
  have h13' : ¬ s.size < 13 := by omega
  have HSI : Hid (smB s = true ↔ _) := rd_sum_iff hm'
  have HAG : Hid (smB s = true → _) := fun hsm => rd_again h71 h13' hm' hsm
  have HE6 : Hid (¬ smB s = true → rdE s = 6) := show _ → _ from fun h => rd_sum h71 h13' hm' h
  have HE5 : Hid (smB s = true → ¬ clB s = true → rdE s = 5) := show _ → _ → _ from fun h h2 => rd_none h71 h13' hm' h h2
  rw [← HM.out] at HSI HAG
  obtain ⟨E, hE⟩ : ∃ E, E = 13 + M := ⟨_, rfl⟩
  obtain ⟨F, hF⟩ : ∃ F, F = 9 + M := ⟨_, rfl⟩
  have HBD : Hid (rdB s = (s.extract 0 E).extract 9 F) := show _ = _ by rw [rdB, ← HM.out, ex_ex _ _ _ _ (by omega), hF]
  rw [← hE, ← hF] at HSI
  rw [← hE, ← HQ.out, HBD.out] at HAG
  obtain ⟨WH, hWH⟩ : ∃ W, W = s.extract 0 E := ⟨_, rfl⟩
  obtain ⟨RS, hRS⟩ : ∃ W, W = s.extract E s.size := ⟨_, rfl⟩
  have hWz : WH.size = E := by rw [hWH, ByteArray.size_extract]; omega
  rw [← hWH] at HSI HAG
  rw [← hRS] at HAG
  obtain ⟨H, hH⟩ : ∃ W, W = WH.extract 0 F := ⟨_, rfl⟩
  obtain ⟨T4, hT4⟩ : ∃ W, W = WH.extract F WH.size := ⟨_, rfl⟩
  obtain ⟨BD, hBD⟩ : ∃ W, W = WH.extract 9 F := ⟨_, rfl⟩
  have hHz : H.size ≤ 1073741824 := by rw [hH, ByteArray.size_extract]; omega
  have hBz : BD.size ≤ 1073741824 := by rw [hBD, ByteArray.size_extract]; omega
  rw [← hH, ← hT4] at HSI
  rw [← hBD] at HAG
  have HSU : Hid (∀ W, Calls Try.prog 35 #[.string H] W fun e w' => e = .returned (.string (sumT H)) ∧ Below W.heap.size W w') := show ∀ W, _ from fun W => fsumof_any H W (by omega)
  have HCG : Hid (∀ W, Calls Try.prog 43 #[.string BD] W (GivesG W (cof 64 BD))) := show ∀ W, _ from fun W => fchanges_any BD W hBz
  have HWR : Hid (∀ W a n c, IsG W a n (cof 64 BD) → Calls Try.prog 17 #[.agg #[.int .i64 Q, .slice a n c]] W fun e w' => e = .returned (.tuple #[.string (grS Q (cof 64 BD)), .int .i64 (grE Q (cof 64 BD))]) ∧ Below W.heap.size W w') := show ∀ W a n c, _ → _ from fun W a n c h => fwrite_any Q h (fun x hx => by have := cof_small 64 BD x hx; omega) (by omega)
  generalize cof 64 BD = L at HAG HCG HWR
  generalize sumT H = T at HSI HSU
  generalize grS Q L = G at HAG HWR
  generalize grE Q L = GE at HAG HWR
  have a1 : (9 : Int) + (M : Int) = (F : Int) := by omega
  have a2 : (F : Int) + 4 = (E : Int) := by omega
  have a3 : (E : Int) - 4 = (F : Int) := by omega
  have a3w : IntKind.i64.wrap ((E : Int) - 4) = (F : Int) := by rw [a3, IntKind.wrap_i64]; omega
  have b1 : (0 : Int) ≤ (E : Int) := by omega
  have b2 : (E : Int) ≤ (s.size : Int) := by omega
  have b3 : (0 : Int) ≤ (F : Int) := by omega
  have b4 : (F : Int) ≤ (WH.size : Int) := by omega
  have b5 : (9 : Int) ≤ (F : Int) := by omega
  have hlt : ¬ (S9.size : Int) - 4 < (M : Int) := by omega
  have hS9b : S9.size ≤ 1073741824 := by omega
  have e1 := hWH.symm
  have e2 := hRS.symm
  have e3 := hH.symm
  have e4 := hT4.symm
  have e5 := hBD.symm
  obtain ⟨E1, HD1⟩ := HC1.out (w.alloc (.cells zgr 30))
  have HD1' := show Hid (_) from HD1
  clear hz hs h71 hm hm' h13' HD1 HC1 hE hF hWH hRS hH hT4 hBD hWz hHz hBz p5 p6 p7 HBD z9
  go_enter Try.func22, Try.ntmps22
  go_wp2_with (first | (go_at_call 41; refine same (HP.out _) ?_) | fail)
  refine Calls.mono HD1'.out ?_
  rintro e w1 ⟨rfl, hb⟩
  have HR1 : Hid (Row w1 w.heap.size 30 zgr) := HR.out.kept (Fr.of_below (fp := []) hb) (by simp)
  have HB1 : Hid (Below w.heap.size w w1) := HB.out.trans (hb.mono HB.out.size)
  obtain ⟨E2, HD2⟩ := HC5.out w1
  have HD2' := show Hid (_) from HD2
  clear hb HR HB HD1' HP HC5 HD2
  go_wp2_with fail
  refine Calls.mono HD2'.out ?_
  rintro e w2 ⟨rfl, hb⟩
  have HR2 : Hid (Row w2 w.heap.size 30 zgr) := HR1.out.kept (Fr.of_below (fp := []) hb) (by simp)
  have HB2 : Hid (Below w.heap.size w w2) := HB1.out.trans (hb.mono HB1.out.size)
  clear hb HR1 HB1 HD2'
  go_wp2
  go_quiet (fail)
  go_wp2
  have hne2 : Nonempty (Kin.Of w2) := Kin.one w2
  have HK : Hid (∀ p : Kin.Of w2, Calls Try.prog 35 #[.string H] p.w fun e w' => e = .returned (.string T) ∧ ∃ q : Kin.Of w2, w' = q.w) := show ∀ p, _ from fun p => Kin.made (HSU.out p.w)
  by_cases hsm : smB s = true
  case neg =>
    have HF : Hid (∀ w', Below w.heap.size w w' → GrP w s (.returned (.tuple #[.agg zgr, .string ⟨#[]⟩, .int .i64 6])) w') := show ∀ w', _ → _ from fun w' hb => GrP.no (HE6.out hsm) (by decide) hb
    have hTn : (T.toList == T4.toList) = false := ne_lists fun e => hsm (HSI.out.2 e)
    clear hsm HSI HAG HE6 HE5 HSU
    refine Kin.region (w0 := w2) (below_drewN (Below.refl _ _) _) (by kernel_rfl) (by kernel_rfl) ?_
    repeat (go_big_quiet_step ((go_at_call 35; exact HK.out _)))
    refine wpQuiet_nil ?_
    intro _ hw'
    obtain ⟨⟨wq, hbq⟩, hw''⟩ := hw'
    subst hw''
    have HR : Hid (Row _ w.heap.size 30 zgr) := HR2.out.kept (Fr.of_below (fp := []) hbq) (by simp)
    have HB : Hid (Below w.heap.size w _) := HB2.out.trans (hbq.mono HB2.out.size)
    clear hbq HR2 HB2 HK HCG HWR
    go_wp2_with (refine wpList_store_row rfl 30 _ _ rfl w.heap.size zgr rfl rfl 30 zgr HR.out (by kernel_rfl) (by rfl) zgr_one ?_)
    (try simp only [Exit.inBlock, Exit.then])
    refine bodyPost_ret (v := .tuple #[.agg zgr, .string ⟨#[]⟩, .int .i64 6]) (results_row_tmp2 (p := 2) (u := 3) (v := 4) rfl _ _ w.heap.size zgr rfl (load_gr _ _ _ (setRow_heap _ _ _ _ _ _ HR.out) rfl)) rfl (HF.out _ (below_setRow HB.out (Nat.le_refl _) _))
  have hTe := HSI.out.1 hsm
  subst hTe
  obtain ⟨HA1, HA2⟩ := HAG.out hsm
  have HA1' := show Hid (_) from HA1
  have HA2' := show Hid (_) from HA2
  have HE := show Hid (_) from HE5.out hsm
  clear hsm HSI HAG HE6 HE5 HSU HA1 HA2
  refine Kin.region (w0 := w2) (below_drewN (Below.refl _ _) _) (by kernel_rfl) (by kernel_rfl) ?_
  repeat (go_big_quiet_step ((go_at_call 35; exact HK.out _)))
  refine wpQuiet_nil ?_
  intro _ hw'
  obtain ⟨⟨wq, hbq⟩, hw''⟩ := hw'
  subst hw''
  have HR3 : Hid (Row _ w.heap.size 30 zgr) := HR2.out.kept (Fr.of_below (fp := []) hbq) (by simp)
  have HB3 : Hid (Below w.heap.size w _) := HB2.out.trans (hbq.mono HB2.out.size)
  clear hbq HR2 HB2 HK
  go_wp2_with fail
  refine Calls.mono (HCG.out _) ?_
  rintro e w3 ⟨ga, gc, rfl, hg, ho, hb⟩
  have HG3 : Hid (IsG w3 ga L.length L) := hg
  have HR4 : Hid (Row (w3.alloc (.cells #[.int .i64 Q, .slice ga L.length gc] 30)) w.heap.size 30 zgr) := (HR3.out.kept (Fr.of_below (fp := []) hb) (by simp)).alloc _
  have hB3 : Below w.heap.size w w3 := HB3.out.trans (hb.mono HB3.out.size)
  have HB4 : Hid (Below w.heap.size w (w3.alloc (.cells #[.int .i64 Q, .slice ga L.length gc] 30))) := hB3.alloc hB3.size _
  have HG4 : Hid (IsG (w3.alloc (.cells #[.int .i64 Q, .slice ga L.length gc] 30)) ga L.length L) := hg.below ((Below.refl _ _).alloc (Nat.le_refl _) _)
  have HO4 : Hid (Own3 (w3.alloc (.cells #[.int .i64 Q, .slice ga L.length gc] 30)) w.heap.size ga) := show Own3 _ _ _ from (ho.below ((Below.refl _ _).alloc (Nat.le_refl _) _)).ge HB3.out.size
  have HX4 : Hid (Row (w3.alloc (.cells #[.int .i64 Q, .slice ga L.length gc] 30)) w3.heap.size 30 #[.int .i64 Q, .slice ga L.length gc]) := Row.new _ _ _
  have HW4 := show Hid (∀ W, _ → _) from fun W (h : IsG W ga L.length L) => HWR.out W ga L.length gc h
  clear hg ho hb hB3 HR3 HB3 HCG HWR HG3
  go_wp2_with fail
  refine Calls.mono (HW4.out _ HG4.out) ?_
  rintro e w5 ⟨rfl, hb⟩
  have HR : Hid (Row w5 w.heap.size 30 zgr) := HR4.out.kept (Fr.of_below (fp := []) hb) (by simp)
  have HB : Hid (Below w.heap.size w w5) := HB4.out.trans (hb.mono HB4.out.size)
  have HX : Hid (Row w5 w3.heap.size 30 #[.int .i64 Q, .slice ga L.length gc]) := HX4.out.kept (Fr.of_below (fp := []) hb) (by simp)
  have HG : Hid (IsG w5 ga L.length L) := HG4.out.below hb
  have HO : Hid (Own3 w5 w.heap.size ga) := HO4.out.below hb
  clear hb HR4 HB4 HX4 HG4 HW4 HO4
  by_cases g1 : GE = 0
  case neg =>
    have HF : Hid (∀ w', Below w.heap.size w w' → GrP w s (.returned (.tuple #[.agg zgr, .string ⟨#[]⟩, .int .i64 5])) w') := show ∀ w', _ → _ from fun w' hb => GrP.no (HE.out fun c => g1 (HA1'.out.2 c).1) (by decide) hb
    have hgn : (GE != 0) = true := by rw [bne_iff_ne]; exact g1
    clear g1
    go_wp2_with (refine wpList_store_row rfl 30 _ _ rfl w.heap.size zgr rfl rfl 30 zgr HR.out (by kernel_rfl) (by rfl) zgr_one ?_)
    (try simp only [Exit.inBlock, Exit.then])
    refine bodyPost_ret (v := .tuple #[.agg zgr, .string ⟨#[]⟩, .int .i64 5]) (results_row_tmp2 (p := 2) (u := 3) (v := 4) rfl _ _ w.heap.size zgr rfl (load_gr _ _ _ (setRow_heap _ _ _ _ _ _ HR.out) rfl)) rfl (HF.out _ (below_setRow HB.out (Nat.le_refl _) _))
  by_cases g2 : G = WH
  case neg =>
    have HF : Hid (∀ w', Below w.heap.size w w' → GrP w s (.returned (.tuple #[.agg zgr, .string ⟨#[]⟩, .int .i64 5])) w') := show ∀ w', _ → _ from fun w' hb => GrP.no (HE.out fun c => g2 (HA1'.out.2 c).2) (by decide) hb
    have hgn : (G.toList == WH.toList) = false := ne_lists g2
    subst g1
    clear g2
    go_wp2_with (refine wpList_store_row rfl 30 _ _ rfl w.heap.size zgr rfl rfl 30 zgr HR.out (by kernel_rfl) (by rfl) zgr_one ?_)
    (try simp only [Exit.inBlock, Exit.then])
    refine bodyPost_ret (v := .tuple #[.agg zgr, .string ⟨#[]⟩, .int .i64 5]) (results_row_tmp2 (p := 2) (u := 3) (v := 4) rfl _ _ w.heap.size zgr rfl (load_gr _ _ _ (setRow_heap _ _ _ _ _ _ HR.out) rfl)) rfl (HF.out _ (below_setRow HB.out (Nat.le_refl _) _))
  have HFI : Hid (∀ w', IsG w' ga L.length L → Own3 w' w.heap.size ga → Below w.heap.size w w' → GrP w s (.returned (.tuple #[.agg #[.int .i64 Q, .slice ga L.length gc], .string RS, .int .i64 0])) w') := show ∀ w', _ → _ → _ → _ from fun w' hg ho hb => by
    obtain ⟨k1, k2, k3, k4⟩ := HA2'.out (HA1'.out.1 ⟨g1, g2⟩)
    exact ⟨ga, L.length, gc, by rw [k3, k4, k1], by rw [k2]; exact hg, ho, hb⟩
  subst g1 g2
  have HGN : Hid (IsG (w5.setRow w.heap.size #[.int .i64 Q, .slice ga L.length gc]) ga L.length L) := show IsG _ _ _ _ from IsG.setRow HG.out (HO.out.apart HR.out (by decide)) _
  have HON : Hid (Own3 (w5.setRow w.heap.size #[.int .i64 Q, .slice ga L.length gc]) w.heap.size ga) := show Own3 _ _ _ from HO.out.setRow (HO.out.apart HR.out (by decide)) _
  clear HA1' HA2' HE
  go_wp2_with (first
    | (refine wpList_load_row rfl 30 _ rfl w3.heap.size rfl 30 #[.int .i64 Q, .slice ga L.length gc] (0, 0) _ HX.out Try.underlying30 rfl (by kernel_rfl) ?_)
    | (refine wpList_store_row rfl 30 _ _ rfl w.heap.size #[.int .i64 Q, .slice ga L.length gc] rfl rfl 30 zgr HR.out (by kernel_rfl) (by rfl) (grv_one _ _ _ _) ?_))
  (try simp only [Exit.inBlock, Exit.then])
  refine bodyPost_ret (v := .tuple #[.agg #[.int .i64 Q, .slice ga L.length gc], .string RS, .int .i64 0]) (results_row_tmp2 (p := 2) (u := 3) (v := 4) rfl _ _ w.heap.size #[.int .i64 Q, .slice ga L.length gc] rfl (load_gr _ _ _ (setRow_heap _ _ _ _ _ _ HR.out) rfl)) rfl (HFI.out _ HGN.out HON.out (below_setRow HB.out (Nat.le_refl _) _))
end Go.Proofs.Ytkjhjpaacpcnmaa

/- The document's Check of changes. -/
namespace Go.Proofs.Ytkjhjpaacpcnmaa
open Go.RowKit Vecm Opened Wirem Txt Frm Blkm Grpm
open Crcm (bys)
set_option linter.unusedVariables false

set_option maxRecDepth 100000 in
set_option maxHeartbeats 4000000 in
theorem frefcheck_any {w : World} {a : Option Addr} {len cap : Nat} {l : List Ch} (h : IsG w a len l) (hz : ChZ l) :
    Calls Try.prog 21 #[.slice a len cap] w fun e w' => e = .returned (.int .i64 (ckE l)) ∧ Below w.heap.size w w' := by
  have hl := h.1
  by_cases h1 : 64 < len
  · rw [ckE_many (by omega)]
    have h1' : (64 : Int) < (len : Int) := by omega
    clear h hl h1 hz
    go_enter Try.func21, Try.ntmps21
    go_wp2
    go_ret
    exact ⟨rfl, Below.refl _ _⟩
  have h1' : ¬ (64 : Int) < (len : Int) := by omega
  have HH : Hid (IsG w a len l) := h
  have HK : Hid (∀ k W, k < len → Calls Try.prog 40 #[.string (l.getD k ch0).key] W fun e w' => e = .returned (.int .i64 (kchE (l.getD k ch0).key)) ∧ Below W.heap.size W w') := show ∀ k W, _ → _ from fun k W hk => krefcheck_any _ W (hz _ (gget_mem (l := l) (k := k) (by omega))).1
  have HS : Hid (∀ k, k < len → ckL (l.take k) = 0 → (chE (l.getD k ch0) ≠ 0 → ckE l = chE (l.getD k ch0)) ∧ (chE (l.getD k ch0) = 0 → ckL (l.take (k + 1)) = 0)) := show ∀ k, _ → _ → _ from fun k hk h0 => by
    obtain ⟨q1, q2⟩ := ckL_at (l := l) (k := k) (by omega) h0
    exact ⟨fun hn => by rw [ckE_bad (by omega) (by rw [q1 hn]; exact hn), q1 hn], q2⟩
  have HN : Hid (len = 0 → ckE l = 1) := show _ → _ from fun e => ckE_nil (by omega)
  have HY : Hid (len ≠ 0 → ckL (l.take len) = 0 → ckE l = 0) := show _ → _ → _ from fun e e2 => ckE_yes (by omega) (by rw [List.take_of_length_le (by omega)] at e2; exact e2) (by omega)
  generalize ckE l = X at HS HN HY ⊢
  clear h hl hz
  go_enter Try.func21, Try.ntmps21
  go_wp2
  go_loopw [3] (fun i wr => ∃ k : Nat, k ≤ len ∧ i = .int .i64 (k : Int) ∧ ckL (l.take k) = 0 ∧ Below w.heap.size w wr) (fun i _ => len - (RowKit.intOf i).toNat)
  case atStart => exact ⟨0, by omega, rfl, rfl, Below.refl _ _⟩
  case round =>
    obtain ⟨k, hk, rfl, hzk, hbel⟩ := hrel
    by_cases hlt : k < len
    · obtain ⟨b, off, rfl, hcell⟩ := isG_at HH.out (by omega)
      obtain ⟨hd0, hd1, hd2⟩ := hcell wr hbel k hlt
      obtain ⟨s1, s2⟩ := HS.out k hlt hzk
      have HCE : Hid (∀ W, Below w.heap.size w W → W.cell? ⟨b, off + k * 3 + 1, none⟩ = some (.string (l.getD k ch0).val) ∧ W.cell? ⟨b, off + k * 3 + 2, none⟩ = some (.bool (l.getD k ch0).gone)) := show ∀ W, _ → _ from fun W hW => (hcell W hW k hlt).2
      have C1 := show Hid (∀ W, _) from fun W => HK.out k W hlt
      have B1 : Hid (kchE (l.getD k ch0).key ≠ 0 → X = kchE (l.getD k ch0).key) := show _ → _ from fun hn => by rw [s1 (by rw [chE_key hn]; exact hn), chE_key hn]
      have B2 : Hid (kchE (l.getD k ch0).key = 0 → 1024 < (l.getD k ch0).val.size → X = 12) := show _ → _ → _ from fun h0 hn => by rw [s1 (by rw [chE_big h0 hn]; decide), chE_big h0 hn]
      have B3 : Hid (kchE (l.getD k ch0).key = 0 → ¬ 1024 < (l.getD k ch0).val.size → ((l.getD k ch0).gone = true ∧ (l.getD k ch0).val.size ≠ 0) → X = 1) := show _ → _ → _ → _ from fun h0 hn hg => by rw [s1 (by rw [chE_arg h0 hn hg]; decide), chE_arg h0 hn hg]
      have B4 : Hid (kchE (l.getD k ch0).key = 0 → ¬ 1024 < (l.getD k ch0).val.size → ¬ ((l.getD k ch0).gone = true ∧ (l.getD k ch0).val.size ≠ 0) → ckL (l.take (k + 1)) = 0) := show _ → _ → _ → _ from fun h0 hn hg => s2 (chE_yes h0 hn hg)
      have HB : Hid (Below w.heap.size w wr) := hbel
      clear s1 s2 hcell hbel hzk HK HS hd1 hd2
      obtain ⟨c, hc⟩ : ∃ c, c = l.getD k ch0 := ⟨_, rfl⟩
      rw [← hc] at hd0 C1 B1 B2 B3 B4 HCE
      obtain ⟨key, val, gone⟩ := c
      dsimp only at hd0 C1 B1 B2 B3 B4 HCE
      generalize kchE key = E at C1 B1 B2 B3 B4
      clear hc
      go_wp2_with fail
      refine Calls.mono (C1.out _) ?_
      rintro e w1 ⟨rfl, hb⟩
      have HB1 : Hid (Below w.heap.size w w1) := HB.out.trans (hb.mono HB.out.size)
      obtain ⟨c1, c2⟩ := HCE.out w1 HB1.out
      clear hb hd0 C1 HB HCE
      by_cases he : E = 0
      case neg =>
        have HX := show Hid (_) from B1.out he
        have hne : (E != 0) = true := by rw [bne_iff_ne]; exact he
        clear he
        go_wp2
        go_ret
        exact ⟨by rw [HX.out]; rfl, HB1.out⟩
      subst he
      by_cases h2 : 1024 < val.size
      · have HX := show Hid (_) from B2.out rfl h2
        have h2' : (1024 : Int) < (val.size : Int) := by omega
        clear h2
        go_wp2
        go_ret
        exact ⟨by rw [HX.out]; rfl, HB1.out⟩
      have h2' : ¬ (1024 : Int) < (val.size : Int) := by omega
      cases gone with
      | false =>
        have HZ := show Hid (_) from B4.out rfl h2 (fun e => by cases e.1)
        clear h2
        go_wp2
        go_roundw
        case rel => exact ⟨k + 1, by omega, by go_num, HZ.out, HB1.out⟩
        case measure => simp [RowKit.intOf]; omega
      | true =>
        by_cases h3 : val.size = 0
        · have HZ := show Hid (_) from B4.out rfl h2 (fun e => e.2 h3)
          obtain rfl := str_none h3
          clear h2 h3
          go_wp2
          go_roundw
          case rel => exact ⟨k + 1, by omega, by go_num, HZ.out, HB1.out⟩
          case measure => simp [RowKit.intOf]; omega
        · have HX := show Hid (_) from B3.out rfl h2 ⟨rfl, h3⟩
          have h4 := str_some h3
          clear h2 h3
          go_wp2
          go_ret
          exact ⟨by rw [HX.out]; rfl, HB1.out⟩
    · obtain rfl : k = len := by omega
      have HB : Hid (Below w.heap.size w wr) := hbel
      by_cases h0 : k = 0
      · have HX := show Hid (_) from HN.out h0
        subst h0
        clear hbel
        go_wp2
        go_ret
        exact ⟨by rw [HX.out]; rfl, HB.out⟩
      · have HX := show Hid (_) from HY.out h0 hzk
        have hne : ¬ ((k : Int) = 0) := by omega
        have hpos : 0 < k := by omega
        clear hbel h0
        go_wp2
        go_ret
        exact ⟨by rw [HX.out]; rfl, HB.out⟩
end Go.Proofs.Ytkjhjpaacpcnmaa

/- What the document's change and Write of a group return. -/
namespace Go.Proofs.Ytkjhjpaacpcnmaa
open Go.RowKit Vecm Opened Wirem Txt Frm Blkm Grpm
open Crcm (bys)
set_option linter.unusedVariables false

set_option maxRecDepth 100000 in
set_option maxHeartbeats 1000000 in
theorem fknown_any (t : ByteArray) (w : World) (hs : t.size ≤ 140737488355328) :
    Calls Try.prog 53 #[.string t] w fun e w' => e = .returned (.string (textS t)) ∧ Below w.heap.size w w' := by
  have HT : Hid (∀ W, Calls Try.prog 66 #[.string t] W fun e w' => e = .returned (.tuple #[.string (textS t), .int .i64 (textE t)]) ∧ Below W.heap.size W w') := show ∀ W, _ from fun W => reftext_any t W hs
  generalize textS t = T at HT ⊢
  generalize textE t = E at HT
  go_enter Try.func53, Try.ntmps53
  go_wp2_with fail
  refine Calls.mono (HT.out _) ?_
  rintro e w1 ⟨rfl, hb⟩
  go_wp2
  go_ret
  exact ⟨rfl, hb⟩

set_option maxRecDepth 100000 in
set_option maxHeartbeats 2000000 in
theorem frefchange_any (c : Ch) (w : World) (hk : c.key.size ≤ 1073741824) (hv : c.val.size ≤ 1073741824) :
    Calls Try.prog 36 #[.agg (chC c)] w fun e w' => e = .returned (.string (chS c)) ∧ Below w.heap.size w w' := by
  have HG1 : Hid (c.gone = true → chS c = ⟨#[1]⟩ ++ textS c.key) := show _ → _ from fun h => if_pos h
  have HG0 : Hid (c.gone = false → chS c = ⟨#[0]⟩ ++ textS c.key ++ textS c.val) := show _ → _ from fun h => by rw [chS, if_neg (by rw [h]; decide), ByteArray.append_assoc]
  obtain ⟨key, val, gone⟩ := c
  rw [chC]
  dsimp only at HG1 HG0 hk hv ⊢
  generalize chS ⟨key, val, gone⟩ = X at HG1 HG0 ⊢
  have t1 := textS_small key
  have t2 := textS_small val
  obtain ⟨V, hV⟩ : ∃ V, V = w.alloc (.cells #[.string key, .string val, .bool gone] 62) := ⟨_, rfl⟩
  have R0 : Row V w.heap.size 62 #[.string key, .string val, .bool gone] := by rw [hV]; exact Row.new _ _ _
  have HB : Hid (Below w.heap.size w V) := show Below _ _ _ by rw [hV]; exact (Below.refl _ _).alloc (Nat.le_refl _) _
  have c0 : V.cell? ⟨w.heap.size, 0, none⟩ = some (.string key) := R0.cell rfl
  have c1 : V.cell? ⟨w.heap.size, 1, none⟩ = some (.string val) := R0.cell rfl
  have c2 : V.cell? ⟨w.heap.size, 2, none⟩ = some (.bool gone) := R0.cell rfl
  have hlt : w.heap.size < V.heap.size := R0.lt
  have hxa : (w.alloc (.cells #[.string key, .string val, .bool gone] 62)) = V := hV.symm
  clear R0 hV
  cases gone with
  | true =>
    have HX := show Hid (_) from HG1.out rfl
    have HK : Hid (∀ W, Calls Try.prog 53 #[.string key] W fun e w' => e = .returned (.string (textS key)) ∧ Below W.heap.size W w') := show ∀ W, _ from fun W => fknown_any key W (by omega)
    generalize textS key = K at HX HK t1
    have z1 : (⟨#[1]⟩ : ByteArray).size = 1 := rfl
    have j1 : ¬ 9223372036854775807 < ((⟨#[1]⟩ : ByteArray).size : Int) + (K.size : Int) := by omega
    clear z1 t1 t2 HG1 HG0 hk hv
    go_enter Try.func36, Try.ntmps36
    go_wp2_with fail
    go_wp2_with fail
    refine Calls.mono (HK.out _) ?_
    rintro e w1 ⟨rfl, hb⟩
    go_wp2
    go_ret
    exact ⟨by rw [HX.out]; rfl, HB.out.trans (hb.mono HB.out.size)⟩
  | false =>
    have HX := show Hid (_) from HG0.out rfl
    have HK : Hid (∀ t (p : Kin.Of V), t.size ≤ 1073741824 → Calls Try.prog 53 #[.string t] p.w fun e w' => e = .returned (.string (textS t)) ∧ ∃ q : Kin.Of V, w' = q.w) := show ∀ t p, _ → _ from fun t p ht => Kin.made (fknown_any t p.w (by omega))
    have z0 : (⟨#[0]⟩ : ByteArray).size = 1 := rfl
    obtain ⟨K, hK⟩ : ∃ K, K = textS key := ⟨_, rfl⟩
    obtain ⟨L, hL⟩ : ∃ L, L = textS val := ⟨_, rfl⟩
    have HK1 : Hid (∀ p : Kin.Of V, Calls Try.prog 53 #[.string key] p.w fun e w' => e = .returned (.string K) ∧ ∃ q : Kin.Of V, w' = q.w) := show ∀ p, _ from fun p => by rw [hK]; exact HK.out key p hk
    have HK2 : Hid (∀ p : Kin.Of V, Calls Try.prog 53 #[.string val] p.w fun e w' => e = .returned (.string L) ∧ ∃ q : Kin.Of V, w' = q.w) := show ∀ p, _ from fun p => by rw [hL]; exact HK.out val p hv
    rw [← hK, ← hL] at HX
    rw [← hK] at t1
    rw [← hL] at t2
    have j1 : ¬ 9223372036854775807 < (⟨#[0]⟩ : ByteArray).size + K.size := by omega
    have j2 : ¬ 9223372036854775807 < ((⟨#[0]⟩ : ByteArray) ++ K).size + L.size := by rw [ByteArray.size_append]; omega
    have hp0 : ∀ p : Kin.Of V, p.w.cell? ⟨w.heap.size, 0, none⟩ = some (.string key) := fun p => Kin.cell hlt c0 p
    have hp1 : ∀ p : Kin.Of V, p.w.cell? ⟨w.heap.size, 1, none⟩ = some (.string val) := fun p => Kin.cell hlt c1 p
    have hne : Nonempty (Kin.Of V) := Kin.one V
    clear z0 t1 t2 HG1 HG0 hk hv hK hL HK
    go_enter Try.func36, Try.ntmps36
    go_wp2
    refine Kin.region (w0 := V) (Below.refl _ _) (by kernel_rfl) (by kernel_rfl) ?_
    repeat (go_big_quiet_step ((fail)))
    go_big_quiet_step ((go_at_call 53; exact HK1.out _))
    repeat (go_big_quiet_step ((fail)))
    go_big_quiet_step ((go_at_call 53; exact HK2.out _))
    repeat (go_big_quiet_step ((fail)))
    refine wpQuiet_nil ?_
    intro _ hw'
    obtain ⟨⟨wq, hbq⟩, hw''⟩ := hw'
    subst hw''
    have HQ : Hid (Below w.heap.size w _) := HB.out.trans (hbq.mono HB.out.size)
    clear hbq hp0 hp1 HK1 HK2
    go_wp2
    go_ret
    exact ⟨by rw [HX.out]; rfl, HQ.out⟩

def grC (q : Int) (a : Option Addr) (n c : Nat) : Value := .agg #[.int .i64 q, .slice a n c]

set_option maxRecDepth 100000 in
set_option maxHeartbeats 4000000 in
theorem frefwrite_any {w : World} {a : Option Addr} {len cap : Nat} {l : List Ch} (q : Int) (h : IsG w a len l) (hz : ChZ l) (hq : q ≤ 9223372036854775807) :
    Calls Try.prog 19 #[.agg #[.int .i64 q, .slice a len cap]] w (WgP w q l) := by
  have HC : Hid (∀ W, Below w.heap.size w W → Calls Try.prog 21 #[.slice a len cap] W fun e w' => e = .returned (.int .i64 (ckE l)) ∧ Below W.heap.size W w') := show ∀ W, _ → _ from fun W hW => frefcheck_any (h.below hW) hz
  have HSU : Hid (∀ n W, n ≤ 9223372036854775807 → Calls Try.prog 37 #[.int .i64 n, .int .i64 4] W fun e w' => e = .returned (.string (putS n 4)) ∧ Below W.heap.size W w') := show ∀ n W, _ → _ from fun n W hn => refsure_any n 4 W hn
  have HSM : Hid (∀ (s : ByteArray) W, s.size ≤ 100000 → Calls Try.prog 38 #[.string s] W fun e w' => e = .returned (.int .u32 (Crcm.more 0 s : Nat)) ∧ w' = W) := show ∀ s W, _ → _ from fun s W hs => refsum_any s W (by omega)
  have HCH : Hid (∀ k W, k < len → Calls Try.prog 36 #[.agg #[.string (l.getD k ch0).key, .string (l.getD k ch0).val, .bool (l.getD k ch0).gone]] W fun e w' => e = .returned (.string (chS (l.getD k ch0))) ∧ Below W.heap.size W w') := show ∀ k W, _ → _ from fun k W hk => frefchange_any (l.getD k ch0) W (hz _ (gget_mem (l := l) (k := k) (by have := h.1; omega))).1 (hz _ (gget_mem (l := l) (k := k) (by have := h.1; omega))).2
  have H1 : Hid (ckE l ≠ 0 → ∀ w', Below w.heap.size w w' → WgP w q l (.returned (.tuple #[.string ⟨#[]⟩, .int .i64 (ckE l)])) w') := show _ → _ from fun hc w' hb => WgP.no (grE_ck hc) hc hb
  have H2 : Hid (ckE l = 0 → ¬ (0 ≤ q ∧ q ≤ 4294967295) → ∀ w', Below w.heap.size w w' → WgP w q l (.returned (.tuple #[.string ⟨#[]⟩, .int .i64 1])) w') := show _ → _ → _ from fun hc hp w' hb => WgP.no (grE_seq hc hp) (by decide) hb
  have H3 : Hid (ckE l = 0 → 0 ≤ q ∧ q ≤ 4294967295 → ∀ w', Below w.heap.size w w' → WgP w q l (.returned (.tuple #[.string (((⟨#[71]⟩ ++ putS q 4) ++ putS ((boS l).size : Int) 4 ++ boS l) ++ putS (Crcm.more 0 ((⟨#[71]⟩ ++ putS q 4) ++ putS ((boS l).size : Int) 4 ++ boS l) : Nat) 4), .int .i64 0])) w') := show _ → _ → _ from fun hc hp w' hb => by
    have hg : grE q l = 0 := grE_zero.2 ⟨hc, hp⟩
    have hh : hdS q l = (⟨#[71]⟩ ++ putS q 4) ++ putS ((boS l).size : Int) 4 ++ boS l := by rw [hdS, gm]; simp only [ByteArray.append_assoc]
    exact ⟨by rw [grS_yes hg, hg, hh]; rfl, hb⟩
  have hy1 : (putS q 4).size ≤ 7 := putS_size q 4 (by omega)
  have hy2 : (putS ((boS l).size : Int) 4).size ≤ 7 := putS_size _ 4 (by omega)
  have hy3 : Hid (ckE l = 0 → len ≤ 64) := show _ → _ from fun hc => by have := (ckE_zero.1 hc).2.1; have := h.1; omega
  have hy4 : Hid (ckE l = 0 → (boS l).size ≤ 82240) := show _ → _ from boS_few
  have HBO : Hid (∀ k, k ≤ len → len ≤ 64 → (boS (l.take k)).size ≤ 131075 * 64) := show ∀ k, _ → _ → _ from fun k hk h64 => by
    have := boS_bound (l.take k)
    rw [List.length_take, h.1] at this
    have h2 : min k len ≤ 64 := by omega
    omega
  have HBS : Hid (∀ k, k < len → boS (l.take (k + 1)) = boS (l.take k) ++ chS (l.getD k ch0)) := show ∀ k, _ → _ from fun k hk => by rw [← gtake_snoc (by have := h.1; omega), boS_snoc]
  have HTA : Hid (l.take len = l) := show _ = _ from List.take_of_length_le (by have := h.1; omega)
  have HR : Hid (∀ W, Below (w.alloc (.cells #[.int .i64 q, .slice a len cap] 24)).heap.size (w.alloc (.cells #[.int .i64 q, .slice a len cap] 24)) W → W.cell? ⟨w.heap.size, 0, none⟩ = some (.int .i64 q) ∧ W.cell? ⟨w.heap.size, 1, none⟩ = some (.slice a len cap) ∧ Below w.heap.size w W) := show ∀ W, _ → _ from fun W hW => by
    have r := (Row.new w 24 #[.int .i64 q, .slice a len cap]).kept (Fr.of_below (fp := []) hW) (by simp)
    have hb : Below w.heap.size w (w.alloc (.cells #[.int .i64 q, .slice a len cap] 24)) := (Below.refl _ _).alloc (Nat.le_refl _) _
    exact ⟨r.cell rfl, r.cell rfl, hb.trans (hW.mono hb.size)⟩
  have HH : Hid (IsG w a len l) := h
  obtain ⟨v0, v1, vb⟩ := HR.out (w.alloc (.cells #[.int .i64 q, .slice a len cap] 24)) (Below.refl _ _)
  have HVB : Hid (Below w.heap.size w (w.alloc (.cells #[.int .i64 q, .slice a len cap] 24))) := vb
  obtain ⟨E0, hE0⟩ : ∃ E, E = ckE l := ⟨_, rfl⟩
  rw [← hE0] at HC H1 H2 H3 hy3 hy4
  clear h hz vb hE0
  go_enter Try.func19, Try.ntmps19
  go_wp2_with fail
  refine Calls.mono (HC.out _ HVB.out) ?_
  rintro e w1 ⟨rfl, hb⟩
  obtain ⟨c0, c1, hB⟩ := HR.out w1 hb
  have HB1 : Hid (Below w.heap.size w w1) := hB
  have HB1V : Hid (Below (w.alloc (.cells #[.int .i64 q, .slice a len cap] 24)).heap.size (w.alloc (.cells #[.int .i64 q, .slice a len cap] 24)) w1) := hb
  clear hb hB HC v0 v1 HVB
  by_cases e0 : E0 = 0
  case neg =>
    have HF := show Hid (_) from H1.out e0 w1 HB1.out
    have hne : (E0 != 0) = true := by rw [bne_iff_ne]; exact e0
    clear e0
    go_wp2
    go_ret2
    exact HF.out
  have hl64 := hy3.out e0
  have hbo := hy4.out e0
  have H20 := show Hid (_ → _) from H2.out e0
  have H30 := show Hid (_ → _) from H3.out e0
  subst e0
  clear H1 H2 H3 hy3 hy4
  by_cases g1 : q < 0
  · have HF := show Hid (_) from H20.out (by omega) w1 HB1.out
    go_wp2
    (try (go_quiet (fail); go_wp2))
    go_ret2
    exact HF.out
  by_cases g2 : 4294967295 < q
  · have HF := show Hid (_) from H20.out (by omega) w1 HB1.out
    go_wp2
    (try (go_quiet (fail); go_wp2))
    go_ret2
    exact HF.out
  have H31 := show Hid (∀ w', _ → _) from H30.out (by omega)
  clear H20 H30
  go_wp2
  go_loopw [5, 6] (fun v i wr => ∃ k : Nat, k ≤ len ∧ i = .int .i64 (k : Int) ∧ v = .string (boS (l.take k)) ∧ Below w1.heap.size w1 wr) (fun _ i _ => len - (RowKit.intOf i).toNat)
  case atStart => exact ⟨0, by omega, rfl, rfl, Below.refl _ _⟩
  case round =>
    obtain ⟨k, hk, rfl, rfl, hbel⟩ := hrel
    obtain ⟨d0, d1, hB⟩ := HR.out wr (HB1V.out.trans (hbel.mono HB1V.out.size))
    have HB : Hid (Below w1.heap.size w1 wr) := hbel
    have HBW : Hid (Below w.heap.size w wr) := hB
    clear hbel hB c0 c1
    by_cases hlt : k < len
    · obtain ⟨b, off, rfl, hcell⟩ := isG_at HH.out (by omega)
      obtain ⟨hd0, hd1, hd2⟩ := hcell wr HBW.out k hlt
      have C1 := show Hid (∀ W, _) from fun W => HCH.out k W hlt
      have HE := show Hid (_) from HBS.out k hlt
      have b1 := HBO.out k hk hl64
      have b2 := HBO.out (k + 1) (by omega) hl64
      rw [HE.out, ByteArray.size_append] at b2
      obtain ⟨c, hc⟩ : ∃ c, c = l.getD k ch0 := ⟨_, rfl⟩
      rw [← hc] at hd0 hd1 hd2 C1 HE b2
      obtain ⟨key, val, gone⟩ := c
      dsimp only at hd0 hd1 hd2 C1
      generalize chS ⟨key, val, gone⟩ = X at C1 HE b2
      obtain ⟨S, hS⟩ : ∃ S, S = boS (l.take k) := ⟨_, rfl⟩
      rw [← hS] at HE b1 b2 ⊢
      have j1 : ¬ 9223372036854775807 < (S.size : Int) + (X.size : Int) := by omega
      clear hcell hc hS b1 b2
      go_wp2_with fail
      refine Calls.mono (C1.out _) ?_
      rintro e w2 ⟨rfl, hb⟩
      have HB2 : Hid (Below w1.heap.size w1 w2) := HB.out.trans (hb.mono HB.out.size)
      clear hb hd0 hd1 hd2 d0 d1 C1
      go_wp2
      go_roundw
      case rel => exact ⟨k + 1, by omega, by go_num, by rw [HE.out], HB2.out⟩
      case measure => simp [RowKit.intOf]; omega
    · obtain rfl : k = len := by omega
      rw [HTA.out]
      have HZ1 := show Hid (∀ W, _) from fun W => HSU.out q W (by omega)
      have HZ2 := show Hid (∀ W, _) from fun W => HSU.out ((boS l).size : Int) W (by omega)
      generalize putS ((boS l).size : Int) 4 = P2 at HZ2 H31 hy2
      generalize putS q 4 = P1 at HZ1 H31 hy1
      generalize boS l = S at HZ2 H31 hbo ⊢
      have z0 : (⟨#[71]⟩ : ByteArray).size = 1 := rfl
      obtain ⟨A1, hA1⟩ : ∃ A, A = (⟨#[71]⟩ : ByteArray) ++ P1 := ⟨_, rfl⟩
      have q1 : A1.size ≤ 8 := by rw [hA1, ByteArray.size_append]; omega
      obtain ⟨A2, hA2⟩ : ∃ A, A = A1 ++ P2 := ⟨_, rfl⟩
      have q2 : A2.size ≤ 15 := by rw [hA2, ByteArray.size_append]; omega
      obtain ⟨A3, hA3⟩ : ∃ A, A = A2 ++ S := ⟨_, rfl⟩
      have q3 : A3.size ≤ 82255 := by rw [hA3, ByteArray.size_append]; omega
      have HF := show Hid (∀ w', _ → _) from H31.out
      rw [← hA1, ← hA2, ← hA3] at HF
      have j1 : ¬ 9223372036854775807 < ((⟨#[71]⟩ : ByteArray).size : Int) + (P1.size : Int) := by omega
      have j2 : ¬ 9223372036854775807 < (A1.size : Int) + (P2.size : Int) := by omega
      have j3 : ¬ 9223372036854775807 < (A2.size : Int) + (S.size : Int) := by omega
      have HS3 := show Hid (∀ W, _) from fun W => HSM.out A3 W (by omega)
      have hmlt : Crcm.more 0 A3 < 4294967296 := Crcm.more_lt A3 (by omega)
      generalize Crcm.more 0 A3 = N at HF HS3 hmlt
      have HZ3 := show Hid (∀ W, _) from fun W => HSU.out (N : Int) W (by omega)
      have hT : (putS (N : Int) 4).size ≤ 7 := putS_size _ 4 (by omega)
      generalize putS (N : Int) 4 = T at HF HZ3 hT
      have j4 : ¬ 9223372036854775807 < (A3.size : Int) + (T.size : Int) := by omega
      have HA1 := hA1.symm
      have HA2 := hA2.symm
      have HA3 := hA3.symm
      clear hA1 hA2 hA3 H31 q1 q2 q3 hT hy1 hy2 z0 HSU HSM HBO HBS HTA hbo HCH hl64
      go_wp2_with fail
      refine Calls.mono (HZ1.out _) ?_
      rintro e w2 ⟨rfl, hb⟩
      have HB2 : Hid (Below w.heap.size w w2) := HBW.out.trans (hb.mono HBW.out.size)
      clear hb d0 d1 HZ1
      go_wp2_with fail
      refine Calls.mono (HZ2.out _) ?_
      rintro e w3 ⟨rfl, hb⟩
      have HB3 : Hid (Below w.heap.size w w3) := HB2.out.trans (hb.mono HB2.out.size)
      clear hb HZ2
      go_wp2_with (first | (go_at_call 38; refine same (HS3.out _) ?_) | fail)
      refine Calls.mono (HZ3.out _) ?_
      rintro e w4 ⟨rfl, hb⟩
      have HB4 : Hid (Below w.heap.size w w4) := HB3.out.trans (hb.mono HB3.out.size)
      clear hb HZ3 HS3
      go_wp2
      go_ret2
      exact HF.out _ HB4.out
end Go.Proofs.Ytkjhjpaacpcnmaa

/- What the document's changes and Read of a group return. -/
namespace Go.Proofs.Ytkjhjpaacpcnmaa
open Go.RowKit Vecm Opened Wirem Txt Frm Blkm Grpm
open Crcm (bys)
set_option linter.unusedVariables false

def szV : Value → Nat
  | .string r => r.size
  | _ => 0
def pmV (o : Option (List Ch)) : List Ch := o.getD []
/-- What changes returns: the changes of bytes, or that they are none. -/
def ChsP (w : World) (o : Option (List Ch)) (e : Ending) (w' : World) : Prop := ∃ a c, e = .returned (.tuple #[.slice a (pmV o).length c, .bool o.isSome]) ∧ IsG w' a (pmV o).length (pmV o) ∧ Own3 w' w.heap.size a ∧ Below w.heap.size w w'
theorem fb_at {r : ByteArray} (h : 0 < r.size) : ((r[0]'h).toNat : Int) = ((fb r : Nat) : Int) := by
  have := Txt.bys_at r 0 h
  rw [fb, List.getD_eq_getElem?_getD, this]; rfl
/-- The changes so far, of one's own. -/
def Own (w wr : World) (v : Value) (L : List Ch) : Prop := Below w.heap.size w wr ∧ wr.ownsRow w.heap.size 62 3 v L.length (gcs L)
theorem Own.below {w W W' : World} {v : Value} {L : List Ch} (h : Own w W v L) (hb : Below W.heap.size W W') : Own w W' v L :=
  ⟨h.1.trans (hb.mono h.1.size), own_kept h.2 (Fr.of_below (fp := []) hb) (by simp)⟩
theorem Own.alloc {w W : World} {v : Value} {L : List Ch} (h : Own w W v L) (o : Obj) : Own w (W.alloc o) v L := h.below ((Below.refl _ _).alloc (Nat.le_refl _) o)
theorem Own.other {w W : World} {v : Value} {L : List Ch} (h : Own w W v L) {G : Nat} (hG : w.heap.size ≤ G) (hv : ∀ k ∈ blk v, k ≠ G) (i : Nat) (u : Value) : Own w (W.setCell ⟨G, i, none⟩ u) v L :=
  ⟨h.1.setCell (show w.heap.size ≤ G from hG) _, own_kept h.2 ((Fr.refl [G] W).setCell (.inl (by simp)) u) (fun k hk e => by simp only [List.mem_singleton] at e; exact hv k hk e)⟩
theorem Own.app {w W W' : World} {v v' : Value} {L : List Ch} {q : Ch} (h : Own w W v L) (hg : W.grownBy W' v.ownBlock) (ho : W'.ownsRow w.heap.size 62 3 v' (L.length + 1) (gcs L ++ [.string q.key, .string q.val, .bool q.gone])) : Own w W' v' (L ++ [q]) := by
  refine ⟨h.1.grown hg h.1.size (fun g hg' => (World.ownsRow.lt h.2 g hg').1), ?_⟩
  rw [gcs_snoc] at ho
  rw [List.length_append]
  exact ho
theorem pr_small (n : Nat) : ∀ (s : ByteArray) (l : List Ch), s.size ≤ n → pr s = some l → ∀ x ∈ l, x.key.size ≤ s.size ∧ x.val.size ≤ s.size := by
  intro s l _ h x hx
  have := cof_pr l.length s l (Nat.le_refl _) h
  rw [← this] at hx
  exact cof_small _ s x hx
theorem pr_len {s : ByteArray} {l : List Ch} (h : pr s = some l) : 3 * l.length ≤ s.size := by
  obtain ⟨h1, h2⟩ := bo_pr h
  have := boS_many h2
  rw [h1] at this
  exact this

set_option maxRecDepth 100000 in
set_option maxHeartbeats 4000000 in
theorem frefchanges_any (s : ByteArray) (w : World) (hs : s.size ≤ 1073741824) :
    Calls Try.prog 45 #[.string s] w (ChsP w (pr s)) := by
  obtain ⟨i0, hi, hz0, hz1, hz2⟩ := info_parts3 ginfo
  have HI : Hid (_) := hi
  have HZ0 : Hid (_) := hz0
  have HZ1 : Hid (_) := hz1
  have HZ2 : Hid (_) := hz2
  have HTK : Hid (∀ (r : ByteArray) W, r.size ≤ 1073741824 → Calls Try.prog 62 #[.string r] W fun e w' => e = .returned (.tuple #[.string (takeS r), .string (takeR r), .int .i64 (takeE r)]) ∧ Below W.heap.size W w') := show ∀ r W, _ → _ from fun r W hr => reftake_any r W (by omega)
  have HS0 : Hid (Own w w (.slice none 0 0) []) := show Own _ _ _ _ from ⟨Below.refl _ _, World.ownsRow_nil _ _ _ _⟩
  have HEND : Hid (∀ L r W v, pr s = (pr r).map (L ++ ·) → r.size = 0 → Own w W v L → ∃ a c, v = .slice a (pmV (pr s)).length c ∧ (pr s).isSome = true ∧ IsG W a (pmV (pr s)).length (pmV (pr s)) ∧ Own3 W w.heap.size a ∧ Below w.heap.size w W) := show ∀ L r W v, _ → _ → _ → _ from fun L r W v h1 h2 h3 => by
    rw [pr_nil h2] at h1
    have e : pr s = some L := by rw [h1]; simp
    have h4 := pr_small _ s L (Nat.le_refl _) e
    have h5 := pr_len e
    rw [e]
    obtain ⟨a, c, q1, q2, q3, _⟩ := own_isG (w := W) (base := w.heap.size) (l := L) h3.2 (by unfold maxLen; omega) (fun x hx => by have := h4 x hx; unfold ChW maxLen; omega)
    exact ⟨a, c, q1, rfl, q2, q3, h3.1⟩
  have HNO : Hid (∀ L r, pr s = (pr r).map (L ++ ·) → r.size ≠ 0 → ¬ tkB r = true → pr s = none) := show ∀ L r, _ → _ → _ → _ from fun L r h1 h2 h3 => by rw [h1, pr_none h2 h3]; rfl
  have HYE : Hid (∀ L r, pr s = (pr r).map (L ++ ·) → r.size ≠ 0 → tkB r = true → pr s = (pr (tkR r)).map ((L ++ [tkC r]) ++ ·) ∧ (tkR r).size + 3 ≤ r.size) := show ∀ L r, _ → _ → _ → _ from fun L r h1 h2 h3 => by
    refine ⟨?_, tkR_less h2 h3⟩
    rw [h1, pr_step h2 h3]
    cases pr (tkR r) with
    | none => rfl
    | some l => simp
  clear hi hz0 hz1 hz2
  go_enter Try.func45, Try.ntmps45
  go_wp2
  go_loopw [0, 4] (fun sv v wr => ∃ (k : Nat) (L : List Ch) (r : ByteArray), r.size + 3 * k ≤ s.size ∧ sv = .string r ∧ L.length = k ∧ pr s = (pr r).map (L ++ ·) ∧ Own w wr v L) (fun sv _ _ => szV sv)
  case atStart => exact ⟨0, [], s, by omega, rfl, rfl, by simp, HS0.out⟩
  case round =>
    obtain ⟨k, L, r, hrs, rfl, hLl, hpr, hown⟩ := hrel
    have HPR : Hid (pr s = (pr r).map (L ++ ·)) := hpr
    have HC : Hid (Own w wr u4 L) := hown
    have HLL : Hid (L.length = k) := hLl
    obtain ⟨ao, cap, hv⟩ : ∃ ao cap, u4 = .slice ao k cap := by
      rcases hown.2.2 with ⟨e1, e2⟩ | ⟨g, cap, cur, e1, _⟩
      · exact ⟨none, 0, by rw [e1]; have : k = 0 := by omega
                           rw [this]⟩
      · exact ⟨_, _, by rw [e1, hLl]⟩
    subst hv
    clear hpr hown hLl
    by_cases h0 : r.size = 0
    · have HE := show Hid (_) from HEND.out L r wr _ HPR.out h0 HC.out
      obtain rfl := str_none h0
      clear h0 hrs
      go_wp2
      (try (go_quiet (fail); go_wp2))
      go_ret2
      obtain ⟨a, c, e1, e2, e3, e4, e5⟩ := HE.out
      exact ⟨a, c, by rw [e2, ← e1]; rfl, e3, e4, e5⟩
    have hne : (r.toList == []) = false := str_some h0
    have hb0 := @fb_at r
    have hc1 : (1 : Int) ≤ (r.size : Int) := by omega
    have hpos : 0 < r.size := by omega
    have h1z : (tkS r).size ≤ r.size := tkS_le r
    have HN0 := show Hid (¬ tkB r = true → pr s = none) from HNO.out L r HPR.out h0
    have HY0 := show Hid (tkB r = true → _) from HYE.out L r HPR.out h0
    have HBI : Hid (tkB r = true ↔ _) := tkB_iff (s := r)
    have HT1 := show Hid (∀ W, _) from fun W => HTK.out (tkS r) W (by omega)
    have HT2 := show Hid (∀ W, _) from fun W => HTK.out (takeR (tkS r)) W (by have := takeR_le (tkS r); omega)
    have HS1 : Hid (tkS r = r.extract 1 r.size) := rfl
    have HGO := show Hid (fb r = 1 → tkC r = _) from tkC_gone (s := r)
    have HPU := show Hid (¬ fb r = 1 → tkC r = _) from tkC_put (s := r)
    have HRG := show Hid (fb r = 1 → tkR r = _) from tkR_gone (s := r)
    have HRP := show Hid (¬ fb r = 1 → tkR r = _) from tkR_put (s := r)
    have hS1 := HS1.out.symm
    generalize tkS r = S1 at HBI HT1 HT2 HGO HPU HRG HRP hS1 h1z
    generalize takeE S1 = E1 at HBI HT1
    generalize takeS S1 = K at HT1 HGO HPU
    generalize takeR S1 = R1 at HBI HT1 HT2 HPU HRG HRP
    generalize takeE R1 = E2 at HBI HT2
    generalize takeS R1 = V at HT2 HPU
    generalize takeR R1 = R2 at HT2 HRP
    obtain ⟨F, hF⟩ : ∃ F, F = fb r := ⟨_, rfl⟩
    rw [← hF] at hb0 HBI HGO HPU HRG HRP
    clear hF HNO HYE HEND HTK HS1 h1z HPR HS0
    by_cases g1 : E1 = 0
    case neg =>
      have HN := show Hid (_) from HN0.out (fun c => g1 (HBI.out.1 c).1)
      have hgn : (E1 != 0) = true := by rw [bne_iff_ne]; exact g1
      clear g1
      go_wp2_with fail
      refine Calls.mono (HT1.out _) ?_
      rintro e w2 ⟨rfl, hb⟩
      have HBN : Hid (Below w.heap.size w w2) := (HC.out.below hb).1
      clear hb HT1 HT2
      go_wp2
      (try (go_quiet (fail); go_wp2))
      go_ret2
      exact ⟨none, 0, by rw [HN.out]; rfl, by rw [HN.out]; exact IsG.nil _, Own3.none _ _, HBN.out⟩
    by_cases g2 : F ≤ 1
    case neg =>
      have HN := show Hid (_) from HN0.out (fun c => g2 (HBI.out.1 c).2.1)
      have hgt : (1 : Int) < (F : Int) := by omega
      clear g2
      subst g1
      go_wp2_with fail
      refine Calls.mono (HT1.out _) ?_
      rintro e w2 ⟨rfl, hb⟩
      have HBN : Hid (Below w.heap.size w w2) := (HC.out.below hb).1
      clear hb HT1 HT2
      go_wp2
      (try (go_quiet (fail); go_wp2))
      go_ret2
      exact ⟨none, 0, by rw [HN.out]; rfl, by rw [HN.out]; exact IsG.nil _, Own3.none _ _, HBN.out⟩
    by_cases g3 : F = 1
    · obtain ⟨q1, q2⟩ := HY0.out (HBI.out.2 ⟨g1, g2, .inl g3⟩)
      rw [HGO.out g3, HRG.out g3] at q1
      rw [HRG.out g3] at q2
      have HCX : Hid (pr s = (pr R1).map ((L ++ [⟨K, nul, true⟩]) ++ ·)) := q1
      have hb1 : ∀ h : 0 < r.size, ((r[0]'h).toNat : Int) = 1 := fun h => by rw [hb0 h, g3]; rfl
      clear q1 HBI HY0 HN0 HGO HPU HRG HRP HT2 hb0 g2
      subst g1 g3
      go_wp2_with fail
      refine Calls.mono (HT1.out _) ?_
      rintro e w2 ⟨rfl, hb⟩
      have HC2 : Hid (Own w w2 (.slice ao k cap) L) := show Own _ _ _ _ from HC.out.below hb
      have HC3 : Hid (Own w (w2.alloc (.cells #[.string K, .string ⟨#[]⟩, .bool true] 62)) (.slice ao k cap) L) := show Own _ _ _ _ from HC2.out.alloc _
      have HO : Hid ((w2.alloc (.cells #[.string K, .string ⟨#[]⟩, .bool true] 62)).ownsRow w.heap.size 62 3 (.slice ao k cap) k (gcs L)) := show World.ownsRow _ _ _ _ _ _ _ by have := HC3.out.2; rw [HLL.out] at this; exact this
      have HC4 : Hid (Own w ((w2.alloc (.cells #[.string K, .string ⟨#[]⟩, .bool true] 62)).alloc (.cells #[.string K, .string ⟨#[]⟩, .bool true] 62)) (.slice ao k cap) L) := show Own _ _ _ _ from HC3.out.alloc _
      have hwz := HC2.out.1.size
      clear hb HT1 hb1
      go_wp2_with ((at_builtin; go_must (refine wpList_append_own _ rfl _ _ 22 rfl w.heap.size 62 i0 (.agg #[.string ByteArray.empty, .string ByteArray.empty, .bool false]) 3 40 Try.underlying22 HI.out HZ0.out HZ1.out HZ2.out rfl (by decide) _ _ _ rfl (World.ownsRow.alloc HO.out _) ⟨w2.heap.size + 1, 0, none⟩ 1 1 [.string K, .string ⟨#[]⟩, .bool true] rfl rfl ?c1 ?c2 ?c3 ?c4 ?c5 ?_)))
      case c1 =>
        have := gcell_new (w2.alloc (.cells #[.string K, .string ⟨#[]⟩, .bool true] 62)) 62 (.string K) (.string ⟨#[]⟩) (.bool true)
        simpa using this
      case c2 => intro u hu; simp at hu; rcases hu with rfl | rfl | rfl <;> rfl
      case c3 => unfold maxLen; omega
      case c4 => omega
      case c5 => simp; omega
      intro v1 w5 hown1 hgrow1 _
      have HCA : Hid (Own w w5 v1 (L ++ [⟨K, nul, true⟩])) := show Own _ _ _ _ from HC4.out.app (q := ⟨K, nul, true⟩) hgrow1 (by rw [HLL.out]; exact hown1)
      clear hown1 hgrow1
      go_wp2
      go_roundw
      case rel => exact ⟨k + 1, L ++ [⟨K, nul, true⟩], R1, by omega, rfl, by rw [List.length_append, HLL.out]; rfl, HCX.out, HCA.out⟩
      case measure => simp only [szV]; omega
    · obtain rfl : F = 0 := by omega
      have hb1 : ∀ h : 0 < r.size, ((r[0]'h).toNat : Int) = 0 := fun h => by rw [hb0 h]; rfl
      by_cases g4 : E2 = 0
      case neg =>
        have HN := show Hid (_) from HN0.out (fun c => by rcases (HBI.out.1 c).2.2 with e | e; exact absurd e (by decide); exact g4 e)
        have hgn : (E2 != 0) = true := by rw [bne_iff_ne]; exact g4
        clear g4 g3 g2 HBI HY0 HN0 HGO HPU HRG HRP hb0
        subst g1
        go_wp2_with fail
        refine Calls.mono (HT1.out _) ?_
        rintro e w2 ⟨rfl, hb⟩
        have HC2 : Hid (Own w w2 (.slice ao k cap) L) := show Own _ _ _ _ from HC.out.below hb
        have HC3 : Hid (Own w (w2.alloc (.cells #[.string K, .string ⟨#[]⟩, .bool false] 62)) (.slice ao k cap) L) := show Own _ _ _ _ from HC2.out.alloc _
        clear hb HT1 hb1
        go_wp2_with fail
        refine Calls.mono (HT2.out _) ?_
        rintro e w3 ⟨rfl, hb⟩
        have HBN : Hid (Below w.heap.size w w3) := (HC3.out.below hb).1
        clear hb HT2
        go_wp2
        (try (go_quiet (fail); go_wp2))
        go_ret2
        exact ⟨none, 0, by rw [HN.out]; rfl, by rw [HN.out]; exact IsG.nil _, Own3.none _ _, HBN.out⟩
      obtain ⟨q1, q2⟩ := HY0.out (HBI.out.2 ⟨g1, g2, .inr g4⟩)
      rw [HPU.out g3, HRP.out g3] at q1
      rw [HRP.out g3] at q2
      have HCX : Hid (pr s = (pr R2).map ((L ++ [⟨K, V, false⟩]) ++ ·)) := q1
      clear q1 HBI HY0 HN0 HGO HPU HRG HRP hb0 g2 g3
      subst g1 g4
      go_wp2_with fail
      refine Calls.mono (HT1.out _) ?_
      rintro e w2 ⟨rfl, hb⟩
      have HC2 : Hid (Own w w2 (.slice ao k cap) L) := show Own _ _ _ _ from HC.out.below hb
      have HC3 : Hid (Own w (w2.alloc (.cells #[.string K, .string ⟨#[]⟩, .bool false] 62)) (.slice ao k cap) L) := show Own _ _ _ _ from HC2.out.alloc _
      have HG : Hid (Row (w2.alloc (.cells #[.string K, .string ⟨#[]⟩, .bool false] 62)) w2.heap.size 62 #[.string K, .string ⟨#[]⟩, .bool false]) := Row.new _ _ _
      have hwz2 := HC2.out.1.size
      have HV : Hid (∀ k' ∈ blk (.slice ao k cap), k' ≠ w2.heap.size) := show ∀ k' ∈ _, _ from fun k' hk' e => by have := own_inn HC2.out.2 k' hk'; omega
      clear hb HT1 hb1
      go_wp2_with fail
      refine Calls.mono (HT2.out _) ?_
      rintro e w3 ⟨rfl, hb⟩
      have hgr : Row w3 w2.heap.size 62 #[.string K, .string ⟨#[]⟩, .bool false] := HG.out.kept (Fr.of_below (fp := []) hb) (by simp)
      have hw3 : w2.heap.size < w3.heap.size := hgr.lt
      have hzf : w3.frozen? ⟨w2.heap.size, 1, none⟩ = false := hgr.frozen
      have hcf : w3.cell? ⟨w2.heap.size, 1, none⟩ = some (.string ⟨#[]⟩) := hgr.cell rfl
      have HG2 : Hid (Row (w3.setCell ⟨w2.heap.size, 1, none⟩ (.string V)) w2.heap.size 62 #[.string K, .string V, .bool false]) := show Row _ _ _ _ from Row.set hgr 1 (.string V)
      have HC4 : Hid (Own w (w3.setCell ⟨w2.heap.size, 1, none⟩ (.string V)) (.slice ao k cap) L) := show Own _ _ _ _ from (HC3.out.below hb).other hwz2 HV.out 1 (.string V)
      have HO : Hid ((w3.setCell ⟨w2.heap.size, 1, none⟩ (.string V)).ownsRow w.heap.size 62 3 (.slice ao k cap) k (gcs L)) := show World.ownsRow _ _ _ _ _ _ _ by have := HC4.out.2; rw [HLL.out] at this; exact this
      have HC5 : Hid (Own w ((w3.setCell ⟨w2.heap.size, 1, none⟩ (.string V)).alloc (.cells #[.string K, .string V, .bool false] 62)) (.slice ao k cap) L) := show Own _ _ _ _ from HC4.out.alloc _
      clear hb hgr HT2 HC3 HG HV
      go_wp2_with (first | (refine wpList_load_row rfl 62 _ rfl w2.heap.size rfl 62 #[.string K, .string V, .bool false] (0, 0) _ HG2.out Try.underlying62 rfl (by kernel_rfl) ?_) | (at_builtin; go_must (refine wpList_append_own _ rfl _ _ 22 rfl w.heap.size 62 i0 (.agg #[.string ByteArray.empty, .string ByteArray.empty, .bool false]) 3 40 Try.underlying22 HI.out HZ0.out HZ1.out HZ2.out rfl (by decide) _ _ _ rfl (World.ownsRow.alloc HO.out _) ⟨w3.heap.size, 0, none⟩ 1 1 [.string K, .string V, .bool false] rfl rfl ?c1 ?c2 ?c3 ?c4 ?c5 ?_)))
      case c1 =>
        have := gcell_new (w3.setCell ⟨w2.heap.size, 1, none⟩ (.string V)) 62 (.string K) (.string V) (.bool false)
        simpa using this
      case c2 => intro u hu; simp at hu; rcases hu with rfl | rfl | rfl <;> rfl
      case c3 => unfold maxLen; omega
      case c4 => omega
      case c5 => simp; omega
      intro v1 w5 hown1 hgrow1 _
      have HCA : Hid (Own w w5 v1 (L ++ [⟨K, V, false⟩])) := show Own _ _ _ _ from HC5.out.app (q := ⟨K, V, false⟩) hgrow1 (by rw [HLL.out]; exact hown1)
      clear hown1 hgrow1
      go_wp2
      go_roundw
      case rel => exact ⟨k + 1, L ++ [⟨K, V, false⟩], R2, by omega, rfl, by rw [List.length_append, HLL.out]; rfl, HCX.out, HCA.out⟩
      case measure => simp only [szV]; omega
end Go.Proofs.Ytkjhjpaacpcnmaa

/- What the document's Read of a group returns. -/
namespace Go.Proofs.Ytkjhjpaacpcnmaa
open Go.RowKit Vecm Opened Wirem Txt Frm Blkm Grpm
open Crcm (bys)
set_option linter.unusedVariables false

set_option maxRecDepth 100000 in
theorem rload_gr (w : World) (g : Nat) (cs : Array Value) (h : Row w g 24 cs) (hz : cs.size = 2) : (loadVar 24 ⟨g, 0, none⟩).run Try.prog w = .ok (.agg cs) w :=
  run_loadVar_row w g 24 24 cs (0, 0) _ h Try.underlying24 rfl (by rw [hz]; kernel_rfl)
theorem cutE4 {r : ByteArray} : cutE r 4 = 0 ↔ 4 ≤ r.size := by
  constructor
  · intro h
    obtain ⟨b, e1, _, _, h3⟩ := cutE_zero h
    omega
  · intro h; exact cutE_yes (k := 4) (by omega) (by omega) h
theorem cutN_head {r : ByteArray} (h : 4 ≤ r.size) : cutN (r.extract 0 4) 4 = cutN r 4 := by
  have e1 : cutN (r.extract 0 4) 4 = _ := cutN_yes (k := 4) (by omega) (by omega) (by rw [ByteArray.size_extract]; omega)
  have e2 : cutN r 4 = _ := cutN_yes (k := 4) (by omega) (by omega) h
  rw [e1, e2, bys_to, List.take_take, Nat.min_self]
theorem rd_rsum {s : ByteArray} (hm : ¬ s.size < 13 + rdM s) : smB s = true ↔ cutN (rdS s) 4 = ((Crcm.more 0 (s.extract 0 (9 + rdM s)) : Nat) : Int) := by
  have h4 : 4 ≤ (rdS s).size := by rw [rdS, size_from]; omega
  rw [smB_iff, ← cutN_head h4, sum_iff _ _ (by rw [ByteArray.size_extract]; omega)]

theorem rdS_eq (s : ByteArray) : rdS s = (s.extract 9 s.size).extract (rdM s) (s.extract 9 s.size).size := by rw [from_from, rdS]
theorem rdB_eq (s : ByteArray) : rdB s = (s.extract 9 s.size).extract 0 (rdM s) := by rw [rdB, mid_eq]
theorem rdS_cut {s : ByteArray} (hm : ¬ s.size < 13 + rdM s) : cutS (rdS s) 4 = s.extract (13 + rdM s) s.size := by
  have h4 : 4 ≤ (rdS s).size := by rw [rdS, size_from]; omega
  have e : cutS (rdS s) 4 = _ := cutS_yes (k := 4) (by omega) (by omega) h4
  rw [e, rdS, from_from, show 9 + rdM s + 4 = 13 + rdM s by omega]

set_option maxRecDepth 100000 in
set_option maxHeartbeats 4000000 in
theorem frefread_any (s : ByteArray) (w : World) (hs : s.size ≤ 1073741824) : Calls Try.prog 23 #[.string s] w (GrP w s) := by
  have HR : Hid (Row (w.alloc (.cells zgr 24)) w.heap.size 24 zgr) := Row.new _ _ _
  have HB : Hid (Below w.heap.size w (w.alloc (.cells zgr 24))) := (Below.refl _ _).alloc (Nat.le_refl _) _
  by_cases hz : s.size = 0
  · have HF : Hid (∀ w', Below w.heap.size w w' → GrP w s (.returned (.tuple #[.agg zgr, .string ⟨#[]⟩, .int .i64 4])) w') := show ∀ w', _ → _ from fun w' hb => GrP.no (rd_nil hz) (by decide) hb
    obtain rfl := str_none hz
    clear hz hs
    go_enter Try.func23, Try.ntmps23
    go_wp2
    (try simp only [Exit.inBlock, Exit.then])
    refine bodyPost_ret (v := .tuple #[.agg zgr, .string ⟨#[]⟩, .int .i64 4]) (results_row_tmp2 (p := 2) (u := 3) (v := 4) rfl _ _ w.heap.size zgr rfl (rload_gr _ _ _ HR.out rfl)) rfl (HF.out _ HB.out)
  have hne : (s.toList == []) = false := str_some hz
  have hb0 := @fb_at s
  have hc1 : (1 : Int) ≤ (s.size : Int) := by omega
  have hpos : 0 < s.size := by omega
  by_cases h71 : fb s = 71
  case neg =>
    have HF : Hid (∀ w', Below w.heap.size w w' → GrP w s (.returned (.tuple #[.agg zgr, .string ⟨#[]⟩, .int .i64 5])) w') := show ∀ w', _ → _ from fun w' hb => GrP.no (rd_form hz h71) (by decide) hb
    have hd : (((fb s : Nat) : Int) != 71) = true := by rw [bne_iff_ne]; omega
    generalize fb s = F at hb0 hd
    clear hz hs h71
    go_enter Try.func23, Try.ntmps23
    go_wp2
    (try simp only [Exit.inBlock, Exit.then])
    refine bodyPost_ret (v := .tuple #[.agg zgr, .string ⟨#[]⟩, .int .i64 5]) (results_row_tmp2 (p := 2) (u := 3) (v := 4) rfl _ _ w.heap.size zgr rfl (rload_gr _ _ _ HR.out rfl)) rfl (HF.out _ HB.out)
  have hb1 : ∀ h : 0 < s.size, ((s[0]'h).toNat : Int) = 71 := fun h => by rw [hb0 h, h71]; rfl
  clear hb0
  have HCU : Hid (∀ (r : ByteArray) W, r.size ≤ 1073741824 → Calls Try.prog 44 #[.string r, .int .i64 4] W fun e w' => e = .returned (.tuple #[.int .i64 (cutN r 4), .string (cutS r 4), .int .i64 (cutE r 4)]) ∧ Below W.heap.size W w') := show ∀ r W, _ → _ from fun r W hr => refcut_any r 4 W (by omega)
  obtain ⟨S1, hS1⟩ : ∃ S, S = s.extract 1 s.size := ⟨_, rfl⟩
  have hS1' := hS1.symm
  have z1 : S1.size + 1 = s.size := by rw [hS1, size_from]; omega
  have hcs : ∀ r : ByteArray, (cutS r 4).size ≤ r.size := fun r => by
    by_cases h : 4 ≤ r.size
    · have e : cutS r 4 = _ := cutS_yes (k := 4) (by omega) (by omega) h
      rw [e, size_from]; omega
    · rw [cutS_no (fun c => h (cutE4.1 c))]; exact Nat.zero_le _
  by_cases h9 : s.size < 9
  · have HF : Hid (∀ w', Below w.heap.size w w' → GrP w s (.returned (.tuple #[.agg zgr, .string ⟨#[]⟩, .int .i64 4])) w') := show ∀ w', _ → _ from fun w' hb => GrP.no (rd_short hz h71 (by omega)) (by decide) hb
    have HD1 := show Hid (∀ W, _) from fun W => HCU.out S1 W (by omega)
    have HD2 := show Hid (∀ W, _) from fun W => HCU.out (cutS S1 4) W (by have := hcs S1; omega)
    have hE2 : cutE S1 4 = 0 → cutE (cutS S1 4) 4 ≠ 0 := fun h1 h2 => by
      have a1 := cutE4.1 h1
      have e : cutS S1 4 = _ := cutS_yes (k := 4) (by omega) (by omega) a1
      have a2 := cutE4.1 h2
      rw [e, size_from] at a2
      omega
    generalize cutN (cutS S1 4) 4 = N2 at HD2
    generalize cutE (cutS S1 4) 4 = E2 at HD2 hE2
    generalize cutS (cutS S1 4) 4 = R2 at HD2
    generalize cutS S1 4 = R1 at HD1 HD2
    generalize cutN S1 4 = N1 at HD1
    generalize cutE S1 4 = E1 at HD1 hE2
    clear hz hs h71 h9 HCU hcs z1 hS1
    by_cases g1 : E1 = 0
    · have hgn : (E2 != 0) = true := by rw [bne_iff_ne]; exact hE2 g1
      subst g1
      clear hE2
      go_enter Try.func23, Try.ntmps23
      go_wp2_with fail
      refine Calls.mono (HD1.out _) ?_
      rintro e w1 ⟨rfl, hb⟩
      have HR' : Hid (Row w1 w.heap.size 24 zgr) := HR.out.kept (Fr.of_below (fp := []) hb) (by simp)
      have HB' : Hid (Below w.heap.size w w1) := HB.out.trans (hb.mono HB.out.size)
      clear hb HR HB
      have HR := HR'
      have HB := HB'
      clear HR' HB'
      go_wp2_with fail
      refine Calls.mono (HD2.out _) ?_
      rintro e w2 ⟨rfl, hb⟩
      have HR' : Hid (Row w2 w.heap.size 24 zgr) := HR.out.kept (Fr.of_below (fp := []) hb) (by simp)
      have HB' : Hid (Below w.heap.size w w2) := HB.out.trans (hb.mono HB.out.size)
      clear hb HR HB
      have HR := HR'
      have HB := HB'
      clear HR' HB'
      go_wp2_with (refine wpList_store_row rfl 24 _ _ rfl w.heap.size zgr rfl rfl 24 zgr HR.out (by kernel_rfl) (by rfl) zgr_one ?_)
      (try simp only [Exit.inBlock, Exit.then])
      refine bodyPost_ret (v := .tuple #[.agg zgr, .string ⟨#[]⟩, .int .i64 4]) (results_row_tmp2 (p := 2) (u := 3) (v := 4) rfl _ _ w.heap.size zgr rfl (rload_gr _ _ _ (setRow_heap _ _ _ _ _ _ HR.out) rfl)) rfl (HF.out _ (below_setRow HB.out (Nat.le_refl _) _))
    · have hgn : (E1 != 0) = true := by rw [bne_iff_ne]; exact g1
      clear hE2 g1
      go_enter Try.func23, Try.ntmps23
      go_wp2_with fail
      refine Calls.mono (HD1.out _) ?_
      rintro e w1 ⟨rfl, hb⟩
      have HR' : Hid (Row w1 w.heap.size 24 zgr) := HR.out.kept (Fr.of_below (fp := []) hb) (by simp)
      have HB' : Hid (Below w.heap.size w w1) := HB.out.trans (hb.mono HB.out.size)
      clear hb HR HB
      have HR := HR'
      have HB := HB'
      clear HR' HB'
      go_wp2_with fail
      refine Calls.mono (HD2.out _) ?_
      rintro e w2 ⟨rfl, hb⟩
      have HR' : Hid (Row w2 w.heap.size 24 zgr) := HR.out.kept (Fr.of_below (fp := []) hb) (by simp)
      have HB' : Hid (Below w.heap.size w w2) := HB.out.trans (hb.mono HB.out.size)
      clear hb HR HB
      have HR := HR'
      have HB := HB'
      clear HR' HB'
      go_wp2_with (refine wpList_store_row rfl 24 _ _ rfl w.heap.size zgr rfl rfl 24 zgr HR.out (by kernel_rfl) (by rfl) zgr_one ?_)
      (try simp only [Exit.inBlock, Exit.then])
      refine bodyPost_ret (v := .tuple #[.agg zgr, .string ⟨#[]⟩, .int .i64 4]) (results_row_tmp2 (p := 2) (u := 3) (v := 4) rfl _ _ w.heap.size zgr rfl (rload_gr _ _ _ (setRow_heap _ _ _ _ _ _ HR.out) rfl)) rfl (HF.out _ (below_setRow HB.out (Nat.le_refl _) _))
  obtain ⟨p1, p2, p3, p4, p5, p6, p7⟩ := rd_parts h9
  obtain ⟨M, hM⟩ : ∃ M, M = rdM s := ⟨_, rfl⟩
  obtain ⟨Q, hQ⟩ : ∃ Q, Q = rdQ s := ⟨_, rfl⟩
  obtain ⟨S5, hS5⟩ : ∃ S, S = s.extract 5 s.size := ⟨_, rfl⟩
  obtain ⟨S9, hS9⟩ : ∃ S, S = s.extract 9 s.size := ⟨_, rfl⟩
  have z5 : S5.size + 5 = s.size := by rw [hS5, size_from]; omega
  have z9 : S9.size + 9 = s.size := by rw [hS9, size_from]; omega
  have HD1 : Hid (∀ W, Calls Try.prog 44 #[.string S1, .int .i64 4] W fun e w' => e = .returned (.tuple #[.int .i64 Q, .string S5, .int .i64 0]) ∧ Below W.heap.size W w') := show ∀ W, _ from fun W => by
    have := HCU.out S1 W (by omega)
    have he : cutE S1 4 = 0 := cutE4.2 (by omega)
    rw [he] at this
    rw [hS1, p1, p3, ← hS5, ← hQ, ← hS1] at this; exact this
  have HD2 : Hid (∀ W, Calls Try.prog 44 #[.string S5, .int .i64 4] W fun e w' => e = .returned (.tuple #[.int .i64 (M : Int), .string S9, .int .i64 0]) ∧ Below W.heap.size W w') := show ∀ W, _ from fun W => by
    have := HCU.out S5 W (by omega)
    have he : cutE S5 4 = 0 := cutE4.2 (by omega)
    rw [he] at this
    rw [hS5, p2, p4, ← hS9, ← hM, ← hS5] at this; exact this
  rw [← hM] at p5
  rw [← hQ] at p6 p7
  have HM : Hid (M = rdM s) := hM
  have HQ : Hid (Q = rdQ s) := hQ
  have HS9 : Hid (S9 = s.extract 9 s.size) := hS9
  clear p1 p2 p3 p4 hM hQ hS1 hS5 hS9 h9 z1 z5
  by_cases hm : s.size < 13 + M
  · have HF : Hid (∀ w', Below w.heap.size w w' → GrP w s (.returned (.tuple #[.agg zgr, .string ⟨#[]⟩, .int .i64 4])) w') := show ∀ w', _ → _ from fun w' hb => GrP.no (by
      by_cases h13 : s.size < 13
      · exact rd_short hz h71 h13
      · exact rd_less h71 h13 (by rw [← HM.out]; exact hm)) (by decide) hb
    have hlt : (S9.size : Int) < (M : Int) + 4 := by omega
    clear hz hs h71 hm HCU hcs
    go_enter Try.func23, Try.ntmps23
    go_wp2_with fail
    refine Calls.mono (HD1.out _) ?_
    rintro e w1 ⟨rfl, hb⟩
    have HR' : Hid (Row w1 w.heap.size 24 zgr) := HR.out.kept (Fr.of_below (fp := []) hb) (by simp)
    have HB' : Hid (Below w.heap.size w w1) := HB.out.trans (hb.mono HB.out.size)
    clear hb HR HB
    have HR := HR'
    have HB := HB'
    clear HR' HB'
    go_wp2_with fail
    refine Calls.mono (HD2.out _) ?_
    rintro e w2 ⟨rfl, hb⟩
    have HR' : Hid (Row w2 w.heap.size 24 zgr) := HR.out.kept (Fr.of_below (fp := []) hb) (by simp)
    have HB' : Hid (Below w.heap.size w w2) := HB.out.trans (hb.mono HB.out.size)
    clear hb HR HB
    have HR := HR'
    have HB := HB'
    clear HR' HB'
    go_wp2_with (refine wpList_store_row rfl 24 _ _ rfl w.heap.size zgr rfl rfl 24 zgr HR.out (by kernel_rfl) (by rfl) zgr_one ?_)
    (try simp only [Exit.inBlock, Exit.then])
    refine bodyPost_ret (v := .tuple #[.agg zgr, .string ⟨#[]⟩, .int .i64 4]) (results_row_tmp2 (p := 2) (u := 3) (v := 4) rfl _ _ w.heap.size zgr rfl (rload_gr _ _ _ (setRow_heap _ _ _ _ _ _ HR.out) rfl)) rfl (HF.out _ (below_setRow HB.out (Nat.le_refl _) _))
  have hlt : ¬ (S9.size : Int) < (M : Int) + 4 := by omega
  have hm' : ¬ s.size < 13 + rdM s := by rw [← HM.out]; exact hm
  have h13' : ¬ s.size < 13 := by omega
  have HSI : Hid (smB s = true ↔ _) := rd_rsum hm'
  have HE6 : Hid (¬ smB s = true → rdE s = 6) := show _ → _ from fun h => rd_sum h71 h13' hm' h
  have HE5 : Hid (smB s = true → ¬ clB s = true → rdE s = 5) := show _ → _ → _ from fun h h2 => rd_none h71 h13' hm' h h2
  have HE0 : Hid (smB s = true → clB s = true → rdE s = 0 ∧ rdL s = (pr (rdB s)).getD [] ∧ rdN s = rdQ s ∧ rdR s = s.extract (13 + rdM s) s.size) := show _ → _ → _ from fun h h2 => by
    have he := rd_yes h71 h13' hm' h h2
    exact ⟨he, if_pos he, if_pos he, if_pos he⟩
  have HCB : Hid (clB s = true ↔ _) := clB_iff (s := s)
  have HBD : Hid (rdB s = S9.extract 0 M) := show _ = _ by rw [rdB_eq, ← HM.out, ← HS9.out]
  have HRS : Hid (rdS s = S9.extract M S9.size) := show _ = _ by rw [rdS_eq, ← HM.out, ← HS9.out]
  have hcu : cutS (rdS s) 4 = s.extract (13 + M) s.size := by rw [rdS_cut hm', ← HM.out]
  obtain ⟨R4, hR4⟩ : ∃ S, S = rdS s := ⟨_, rfl⟩
  have z4 : R4.size ≤ 1073741824 := by rw [hR4, rdS, size_from]; omega
  have HD3 : Hid (∀ W, Calls Try.prog 44 #[.string R4, .int .i64 4] W fun e w' => ∃ E : Int, e = .returned (.tuple #[.int .i64 (cutN R4 4), .string (cutS R4 4), .int .i64 E]) ∧ Below W.heap.size W w') := show ∀ W, _ from fun W => (HCU.out R4 W z4).mono fun e w' ⟨h1, h2⟩ => ⟨_, h1, h2⟩
  rw [hR4, hcu, ← hR4] at HD3
  rw [← hR4] at HSI HRS
  rw [← HM.out] at HSI HE0
  rw [← HQ.out] at HE0
  obtain ⟨F, hF⟩ : ∃ F, F = 9 + M := ⟨_, rfl⟩
  rw [← hF] at HSI
  obtain ⟨H, hH⟩ : ∃ W, W = s.extract 0 F := ⟨_, rfl⟩
  obtain ⟨BD, hBD⟩ : ∃ W, W = rdB s := ⟨_, rfl⟩
  obtain ⟨RS, hRS⟩ : ∃ W, W = s.extract (13 + M) s.size := ⟨_, rfl⟩
  have hHz : H.size ≤ 1073741824 := by rw [hH, ByteArray.size_extract]; omega
  have hBz : BD.size ≤ 1073741824 := by rw [hBD, rdB, ByteArray.size_extract]; omega
  rw [← hH] at HSI
  rw [← hBD] at HBD HE0 HCB
  rw [← hRS] at HD3 HE0
  have HSM : Hid (∀ W, Calls Try.prog 38 #[.string H] W fun e w' => e = .returned (.int .u32 (Crcm.more 0 H : Nat)) ∧ w' = W) := show ∀ W, _ from fun W => refsum_any H W (by omega)
  have hmlt : Crcm.more 0 H < 4294967296 := Crcm.more_lt H (by omega)
  generalize Crcm.more 0 H = N at HSI HSM hmlt
  have HCG : Hid (∀ W, Calls Try.prog 45 #[.string BD] W (ChsP W (pr BD))) := show ∀ W, _ from fun W => frefchanges_any BD W hBz
  have HSM2 : Hid (∀ l, pr BD = some l → ChZ l) := show ∀ l, _ → _ from fun l hl x hx => by have := pr_small _ BD l (Nat.le_refl _) hl x hx; omega
  generalize pr BD = O at HE0 HCB HCG HSM2
  generalize cutN R4 4 = SU at HSI HD3
  have a1 : (9 : Int) + (M : Int) = (F : Int) := by omega
  have b1 : (0 : Int) ≤ (M : Int) := by omega
  have b2 : (M : Int) ≤ (S9.size : Int) := by omega
  have b3 : (0 : Int) ≤ (F : Int) := by omega
  have b4 : (F : Int) ≤ (s.size : Int) := by omega
  have hS9b : S9.size ≤ 1073741824 := by omega
  have e3 := hH.symm
  have e4 := HRS.out.symm
  have e5 := HBD.out.symm
  clear hz hs h71 hm hm' h13' hcs HCU hF hH hBD hRS hHz hBz p6 p7 z9 hcu hR4 z4 HRS HBD HS9
  go_enter Try.func23, Try.ntmps23
  go_wp2_with fail
  refine Calls.mono (HD1.out _) ?_
  rintro e w1 ⟨rfl, hb⟩
  have HR' : Hid (Row w1 w.heap.size 24 zgr) := HR.out.kept (Fr.of_below (fp := []) hb) (by simp)
  have HB' : Hid (Below w.heap.size w w1) := HB.out.trans (hb.mono HB.out.size)
  clear hb HR HB
  have HR := HR'
  have HB := HB'
  clear HR' HB'
  go_wp2_with fail
  refine Calls.mono (HD2.out _) ?_
  rintro e w2 ⟨rfl, hb⟩
  have HR' : Hid (Row w2 w.heap.size 24 zgr) := HR.out.kept (Fr.of_below (fp := []) hb) (by simp)
  have HB' : Hid (Below w.heap.size w w2) := HB.out.trans (hb.mono HB.out.size)
  clear hb HR HB
  have HR := HR'
  have HB := HB'
  clear HR' HB'
  go_wp2_with fail
  refine Calls.mono (HD3.out _) ?_
  rintro e w3 ⟨E3, rfl, hb⟩
  have HR' : Hid (Row w3 w.heap.size 24 zgr) := HR.out.kept (Fr.of_below (fp := []) hb) (by simp)
  have HB' : Hid (Below w.heap.size w w3) := HB.out.trans (hb.mono HB.out.size)
  clear hb HR HB HD1 HD2 HD3
  have HR := HR'
  have HB := HB'
  clear HR' HB'
  by_cases hsm : smB s = true
  case neg =>
    have HF : Hid (∀ w', Below w.heap.size w w' → GrP w s (.returned (.tuple #[.agg zgr, .string ⟨#[]⟩, .int .i64 6])) w') := show ∀ w', _ → _ from fun w' hb => GrP.no (HE6.out hsm) (by decide) hb
    have hTn : (SU != (N : Int)) = true := by rw [bne_iff_ne]; exact fun e => hsm (HSI.out.2 e)
    clear hsm HSI HE6 HE5 HE0
    go_wp2_with (first | (go_at_call 38; refine same (HSM.out _) ?_) | (refine wpList_store_row rfl 24 _ _ rfl w.heap.size zgr rfl rfl 24 zgr HR.out (by kernel_rfl) (by rfl) zgr_one ?_))
    (try simp only [Exit.inBlock, Exit.then])
    refine bodyPost_ret (v := .tuple #[.agg zgr, .string ⟨#[]⟩, .int .i64 6]) (results_row_tmp2 (p := 2) (u := 3) (v := 4) rfl _ _ w.heap.size zgr rfl (rload_gr _ _ _ (setRow_heap _ _ _ _ _ _ HR.out) rfl)) rfl (HF.out _ (below_setRow HB.out (Nat.le_refl _) _))
  have hsu := HSI.out.1 hsm
  subst hsu
  have HE5' := show Hid (_ → _) from HE5.out hsm
  have HE0' := show Hid (_ → _) from HE0.out hsm
  clear hsm HSI HE6 HE5 HE0
  go_wp2_with (first | (go_at_call 38; refine same (HSM.out _) ?_) | fail)
  refine Calls.mono (HCG.out _) ?_
  rintro e w4 ⟨ga, gc, rfl, hg, ho, hb⟩
  have HR' : Hid (Row w4 w.heap.size 24 zgr) := HR.out.kept (Fr.of_below (fp := []) hb) (by simp)
  have HB' : Hid (Below w.heap.size w w4) := HB.out.trans (hb.mono HB.out.size)
  have HOW : Hid (Own3 w4 w.heap.size ga) := ho.ge HB.out.size
  clear hb HR HB HCG HSM ho
  have HR := HR'
  have HB := HB'
  clear HR' HB'
  cases O with
  | none =>
    have HF : Hid (∀ w', Below w.heap.size w w' → GrP w s (.returned (.tuple #[.agg zgr, .string ⟨#[]⟩, .int .i64 5])) w') := show ∀ w', _ → _ from fun w' hb => GrP.no (HE5'.out fun c => by obtain ⟨l, h, _⟩ := HCB.out.1 c; cases h) (by decide) hb
    have his : (none : Option (List Ch)).isSome = false := rfl
    have hpm : pmV none = [] := rfl
    clear hg HOW HE5' HE0' HCB
    go_wp2_with (refine wpList_store_row rfl 24 _ _ rfl w.heap.size zgr rfl rfl 24 zgr HR.out (by kernel_rfl) (by rfl) zgr_one ?_)
    (try simp only [Exit.inBlock, Exit.then])
    refine bodyPost_ret (v := .tuple #[.agg zgr, .string ⟨#[]⟩, .int .i64 5]) (results_row_tmp2 (p := 2) (u := 3) (v := 4) rfl _ _ w.heap.size zgr rfl (rload_gr _ _ _ (setRow_heap _ _ _ _ _ _ HR.out) rfl)) rfl (HF.out _ (below_setRow HB.out (Nat.le_refl _) _))
  | some l =>
    have hpm : pmV (some l) = l := rfl
    have his : (some l).isSome = true := rfl
    rw [hpm] at hg ⊢
    rw [his]
    have HG : Hid (IsG w4 ga l.length l) := hg
    have HCK : Hid (Calls Try.prog 21 #[.slice ga l.length gc] w4 fun e w' => e = .returned (.int .i64 (ckE l)) ∧ Below w4.heap.size w4 w') := frefcheck_any hg (HSM2.out l rfl)
    have HC0 : Hid (ckE l ≠ 0 → rdE s = 5) := show _ → _ from fun h => HE5'.out fun c => by obtain ⟨l', e, h'⟩ := HCB.out.1 c; injection e with e; subst e; exact h h'
    have HC1 : Hid (ckE l = 0 → rdE s = 0 ∧ rdL s = l ∧ rdN s = Q ∧ rdR s = RS) := show _ → _ from fun h => HE0'.out (HCB.out.2 ⟨l, rfl, h⟩)
    generalize ckE l = CE at HCK HC0 HC1
    clear hg HE5' HE0' HCB hpm his HSM2
    go_wp2_with fail
    refine Calls.mono HCK.out ?_
    rintro e w5 ⟨rfl, hb⟩
    have HR' : Hid (Row w5 w.heap.size 24 zgr) := HR.out.kept (Fr.of_below (fp := []) hb) (by simp)
    have HB' : Hid (Below w.heap.size w w5) := HB.out.trans (hb.mono HB.out.size)
    have HOW' : Hid (Own3 w5 w.heap.size ga) := HOW.out.below hb
    have HG' : Hid (IsG w5 ga l.length l) := HG.out.below hb
    clear hb HR HB HCK HOW HG
    have HR := HR'
    have HB := HB'
    clear HR' HB'
    by_cases g1 : CE = 0
    case neg =>
      have HF : Hid (∀ w', Below w.heap.size w w' → GrP w s (.returned (.tuple #[.agg zgr, .string ⟨#[]⟩, .int .i64 5])) w') := show ∀ w', _ → _ from fun w' hb => GrP.no (HC0.out g1) (by decide) hb
      have hgn : (CE != 0) = true := by rw [bne_iff_ne]; exact g1
      clear g1
      go_wp2_with (refine wpList_store_row rfl 24 _ _ rfl w.heap.size zgr rfl rfl 24 zgr HR.out (by kernel_rfl) (by rfl) zgr_one ?_)
      (try simp only [Exit.inBlock, Exit.then])
      refine bodyPost_ret (v := .tuple #[.agg zgr, .string ⟨#[]⟩, .int .i64 5]) (results_row_tmp2 (p := 2) (u := 3) (v := 4) rfl _ _ w.heap.size zgr rfl (rload_gr _ _ _ (setRow_heap _ _ _ _ _ _ HR.out) rfl)) rfl (HF.out _ (below_setRow HB.out (Nat.le_refl _) _))
    have HFI : Hid (∀ w', IsG w' ga l.length l → Own3 w' w.heap.size ga → Below w.heap.size w w' → GrP w s (.returned (.tuple #[.agg #[.int .i64 Q, .slice ga l.length gc], .string RS, .int .i64 0])) w') := show ∀ w', _ → _ → _ → _ from fun w' hg ho hb => by
      obtain ⟨k1, k2, k3, k4⟩ := HC1.out g1
      exact ⟨ga, l.length, gc, by rw [k3, k4, k1], by rw [k2]; exact hg, ho, hb⟩
    subst g1
    have HGN : Hid (IsG (w5.setRow w.heap.size #[.int .i64 Q, .slice ga l.length gc]) ga l.length l) := show IsG _ _ _ _ from IsG.setRow HG'.out (HOW'.out.apart HR.out (by decide)) _
    have HON : Hid (Own3 (w5.setRow w.heap.size #[.int .i64 Q, .slice ga l.length gc]) w.heap.size ga) := show Own3 _ _ _ from HOW'.out.setRow (HOW'.out.apart HR.out (by decide)) _
    clear HC0 HC1
    go_wp2_with (refine wpList_store_row rfl 24 _ _ rfl w.heap.size #[.int .i64 Q, .slice ga l.length gc] rfl rfl 24 zgr HR.out (by kernel_rfl) (by rfl) (grv_one _ _ _ _) ?_)
    (try simp only [Exit.inBlock, Exit.then])
    refine bodyPost_ret (v := .tuple #[.agg #[.int .i64 Q, .slice ga l.length gc], .string RS, .int .i64 0]) (results_row_tmp2 (p := 2) (u := 3) (v := 4) rfl _ _ w.heap.size #[.int .i64 Q, .slice ga l.length gc] rfl (rload_gr _ _ _ (setRow_heap _ _ _ _ _ _ HR.out) rfl)) rfl (HFI.out _ HGN.out HON.out (below_setRow HB.out (Nat.le_refl _) _))
end Go.Proofs.Ytkjhjpaacpcnmaa

/- Whether changes are few; whether two lists of changes are the same. -/
namespace Go.Proofs.Ytkjhjpaacpcnmaa
open Go.RowKit Vecm Opened Wirem Txt Frm Blkm Grpm
open Crcm (bys)
set_option linter.unusedVariables false

def fewC (c : Ch) : Bool := decide (c.key.size ≤ 300) && decide (c.val.size ≤ 1200)
def fewB (l : List Ch) : Bool := l.all fewC && decide (l.length ≤ 80)
theorem fewC_iff {c : Ch} : fewC c = true ↔ c.key.size ≤ 300 ∧ c.val.size ≤ 1200 := by simp [fewC]
theorem fewB_iff {l : List Ch} : fewB l = true ↔ (∀ c ∈ l, c.key.size ≤ 300 ∧ c.val.size ≤ 1200) ∧ l.length ≤ 80 := by
  simp only [fewB, Bool.and_eq_true, List.all_eq_true, fewC_iff, decide_eq_true_eq]
theorem fewB_z {l : List Ch} (h : fewB l = true) : ChZ l := fun x hx => by
  have := (fewB_iff.1 h).1 x hx
  omega

set_option maxRecDepth 100000 in
set_option maxHeartbeats 2000000 in
theorem ffew_any {w : World} {a : Option Addr} {len cap : Nat} {l : List Ch} (h : IsG w a len l) :
    Calls Try.prog 15 #[.slice a len cap] w fun e w' => e = .returned (.bool (fewB l)) ∧ w' = w := by
  have HH : Hid (IsG w a len l) := h
  have HL : Hid (l.length = len) := h.1
  have HN : Hid (∀ k, k < len → fewC (l.getD k ch0) = false → fewB l = false) := show ∀ k, _ → _ → _ from fun k hk hc => by
    rw [← Bool.not_eq_true]
    intro hf
    rw [fewB, Bool.and_eq_true, List.all_eq_true] at hf
    rw [hf.1 _ (gget_mem (by have := h.1; omega))] at hc
    cases hc
  have HY : Hid ((l.take len).all fewC = true → fewB l = decide ((len : Int) ≤ 80)) := show _ → _ from fun e => by
    rw [List.take_of_length_le (by have := h.1; omega)] at e
    rw [fewB, e, Bool.true_and, h.1]
    simp
    omega
  have HS : Hid (∀ k, k < len → (l.take k).all fewC = true → fewC (l.getD k ch0) = true → (l.take (k + 1)).all fewC = true) := show ∀ k, _ → _ → _ → _ from fun k hk h1 h2 => by
    rw [← gtake_snoc (by have := h.1; omega), List.all_append, h1, Bool.true_and, List.all_cons, h2]; rfl
  generalize fewB l = X at HN HY ⊢
  have hmx : len ≤ 9223372036854775807 := by have := h.2.1; unfold maxLen at this; omega
  clear h
  go_enter Try.func15, Try.ntmps15
  go_wp2
  go_loop [3] (fun i => ∃ k : Nat, k ≤ len ∧ i = .int .i64 (k : Int) ∧ (l.take k).all fewC = true) (fun i => len - (RowKit.intOf i).toNat)
  case atStart => exact ⟨0, by omega, rfl, rfl⟩
  case round =>
    obtain ⟨k, hk, rfl, hzk⟩ := hrel
    by_cases hlt : k < len
    · obtain ⟨b, off, rfl, hcell⟩ := isG_at HH.out (by omega)
      obtain ⟨hd0, hd1, hd2⟩ := hcell w (Below.refl _ _) k hlt
      have S1 : Hid (_) := HS.out k hlt hzk
      have N1 : Hid (_) := HN.out k hlt
      obtain ⟨c, hc⟩ : ∃ c, c = l.getD k ch0 := ⟨_, rfl⟩
      rw [← hc] at hd0 hd1 hd2 S1 N1
      obtain ⟨key, val, gone⟩ := c
      dsimp only at hd0 hd1 hd2
      have hm : 80 < len + 81 := by omega
      clear hcell hzk HS HN hc
      by_cases g1 : 300 < key.size
      · have HX := show Hid (_) from N1.out (by rw [← Bool.not_eq_true, fewC_iff]; intro e; exact absurd e.1 (by dsimp only; omega))
        have g1' : (300 : Int) < (key.size : Int) := by omega
        clear g1 S1 N1
        go_wp2
        go_ret
        exact ⟨by rw [HX.out]; rfl, rfl⟩
      have g1' : ¬ (300 : Int) < (key.size : Int) := by omega
      by_cases g2 : 1200 < val.size
      · have HX := show Hid (_) from N1.out (by rw [← Bool.not_eq_true, fewC_iff]; intro e; exact absurd e.2 (by dsimp only; omega))
        have g2' : (1200 : Int) < (val.size : Int) := by omega
        clear g1 g2 S1 N1
        go_wp2
        go_ret
        exact ⟨by rw [HX.out]; rfl, rfl⟩
      have g2' : ¬ (1200 : Int) < (val.size : Int) := by omega
      have HZ := show Hid (_) from S1.out (fewC_iff.2 ⟨by dsimp only; omega, by dsimp only; omega⟩)
      clear g1 g2 S1 N1
      go_wp2
      go_round
      case rel => exact ⟨k + 1, by omega, by go_num, HZ.out⟩
      case measure => simp [RowKit.intOf]; omega
    · obtain rfl : k = len := by omega
      have HX := show Hid (_) from HY.out hzk
      clear hzk
      go_wp2
      go_ret
      exact ⟨by rw [HX.out]; rfl, rfl⟩

def sameG (l k : List Ch) : Bool := (l.length == k.length) && (List.range l.length).all fun i => decide ((l.getD i ch0).key = (k.getD i ch0).key) && decide ((l.getD i ch0).val = (k.getD i ch0).val) && ((l.getD i ch0).gone == (k.getD i ch0).gone)
theorem sameG_iff {l k : List Ch} : sameG l k = true ↔ l = k := by
  constructor
  · intro h
    simp only [sameG, Bool.and_eq_true, beq_iff_eq, List.all_eq_true, List.mem_range, decide_eq_true_eq] at h
    refine List.ext_getElem h.1 fun i h1 h2 => ?_
    have := h.2 i h1
    rw [show l.getD i ch0 = l[i] by simp [List.getD, h1], show k.getD i ch0 = k[i] by simp [List.getD, h2]] at this
    obtain ⟨⟨e1, e2⟩, e3⟩ := this
    generalize l[i] = x at e1 e2 e3
    generalize k[i] = y at e1 e2 e3
    cases x; cases y; simp_all
  · rintro rfl
    simp [sameG]

theorem sameG_at {l m : List Ch} {k : Nat} (h : l.length = m.length) (hk : k < l.length) (h0 : l.take k = m.take k) : (l.getD k ch0 = m.getD k ch0 → l.take (k + 1) = m.take (k + 1)) ∧ (l.getD k ch0 ≠ m.getD k ch0 → sameG l m = false) := by
  refine ⟨fun e => by rw [← gtake_snoc hk, ← gtake_snoc (by omega), h0, e], fun hn => ?_⟩
  rw [← Bool.not_eq_true, sameG_iff]
  rintro rfl
  exact hn rfl

set_option maxRecDepth 100000 in
set_option maxHeartbeats 4000000 in
theorem chgs_any {w : World} {a a' : Option Addr} {n n' cap cap' : Nat} {l m : List Ch} (h : IsG w a n l) (h' : IsG w a' n' m) :
    Calls Try.prog 24 #[.slice a n cap, .slice a' n' cap'] w fun e w' => e = .returned (.bool (sameG l m)) ∧ Below w.heap.size w w' := by
  have hl := h.1
  have hm := h'.1
  by_cases hlen : n = n'
  case neg =>
    have e : sameG l m = false := by
      rw [← Bool.not_eq_true, sameG_iff]
      rintro rfl
      omega
    rw [e]
    have hne : ((n : Int) != (n' : Int)) = true := by rw [bne_iff_ne]; omega
    clear h h' hl hm hlen e
    go_enter Try.func24, Try.ntmps24
    go_wp2
    go_ret
    exact ⟨rfl, Below.refl _ _⟩
  subst hlen
  have HH : Hid (IsG w a n l) := h
  have HH' : Hid (IsG w a' n m) := h'
  have HS : Hid (∀ k, k < n → l.take k = m.take k → (l.getD k ch0 = m.getD k ch0 → l.take (k + 1) = m.take (k + 1)) ∧ (l.getD k ch0 ≠ m.getD k ch0 → sameG l m = false)) := show ∀ k, _ → _ → _ from fun k hk h0 => sameG_at (by omega) (by omega) h0
  have HY : Hid (l.take n = m.take n → sameG l m = true) := show _ → _ from fun e => by
    rw [List.take_of_length_le (by omega), List.take_of_length_le (by omega)] at e
    exact sameG_iff.2 e
  have hmx : n ≤ 9223372036854775807 := by have := h.2.1; unfold maxLen at this; omega
  have hll : ((n : Int) != (n : Int)) = false := by simp
  generalize sameG l m = X at HS HY ⊢
  clear h h' hl hm
  go_enter Try.func24, Try.ntmps24
  go_wp2
  go_loopw [5] (fun i wr => ∃ k : Nat, k ≤ n ∧ i = .int .i64 (k : Int) ∧ l.take k = m.take k ∧ Below w.heap.size w wr) (fun i _ => n - (RowKit.intOf i).toNat)
  case atStart => exact ⟨0, by omega, rfl, rfl, Below.refl _ _⟩
  case round =>
    obtain ⟨k, hk, rfl, hzk, hbel⟩ := hrel
    by_cases hlt : k < n
    · obtain ⟨b, off, rfl, hcell⟩ := isG_at HH.out (by omega)
      obtain ⟨hd0, hd1, hd2⟩ := hcell wr hbel k hlt
      obtain ⟨b', off', rfl, hcell'⟩ := isG_at HH'.out (by omega)
      obtain ⟨he0, he1, he2⟩ := hcell' wr hbel k hlt
      obtain ⟨s1, s2⟩ := HS.out k hlt hzk
      have S1 : Hid (_ → _) := s1
      have S2 : Hid (_ → _) := s2
      have HB : Hid (Below w.heap.size w wr) := hbel
      obtain ⟨q, hq⟩ : ∃ q, q = l.getD k ch0 := ⟨_, rfl⟩
      obtain ⟨p, hp⟩ : ∃ p, p = m.getD k ch0 := ⟨_, rfl⟩
      rw [← hq] at hd0 hd1 hd2
      rw [← hp] at he0 he1 he2
      rw [← hp, ← hq] at S1 S2
      obtain ⟨q0, q1, q2⟩ := q
      obtain ⟨p0, p1, p2⟩ := p
      dsimp only at hd0 hd1 hd2 he0 he1 he2
      clear hcell hcell' hbel hq hp s1 s2 hzk HS
      by_cases g0 : q0 = p0
      case neg =>
        have HX := show Hid (_) from S2.out (fun e => g0 (by injection e))
        have hne : (q0.toList == p0.toList) = false := ne_lists g0
        clear g0 S1 S2
        go_wp2
        go_quiet (fail)
        go_wp2
        go_ret
        exact ⟨by rw [HX.out]; rfl, below_drewN HB.out _⟩
      subst g0
      by_cases g1 : q1 = p1
      case neg =>
        have HX := show Hid (_) from S2.out (fun e => g1 (by injection e))
        have hne : (q1.toList == p1.toList) = false := ne_lists g1
        clear g1 S1 S2
        go_wp2
        go_quiet (fail)
        go_wp2
        go_ret
        exact ⟨by rw [HX.out]; rfl, below_drewN HB.out _⟩
      subst g1
      by_cases g2 : q2 = p2
      case neg =>
        have HX := show Hid (_) from S2.out (fun e => g2 (by injection e))
        have hne : (q2 == p2) = false := by rw [beq_eq_false_iff_ne]; exact g2
        clear g2 S1 S2
        go_wp2
        go_quiet (fail)
        go_wp2
        go_ret
        exact ⟨by rw [HX.out]; rfl, below_drewN HB.out _⟩
      subst g2
      have HZ := show Hid (_) from S1.out rfl
      clear S1 S2
      go_wp2
      go_quiet (fail)
      go_wp2
      go_roundw
      case rel => exact ⟨k + 1, by omega, by go_num, HZ.out, below_drewN HB.out _⟩
      case measure => simp [RowKit.intOf]; omega
    · obtain rfl : k = n := by omega
      have HB : Hid (Below w.heap.size w wr) := hbel
      have HX := show Hid (_) from HY.out hzk
      clear hbel hzk
      go_wp2
      go_ret
      exact ⟨by rw [HX.out]; rfl, HB.out⟩
end Go.Proofs.Ytkjhjpaacpcnmaa

/- Structs of five fields, and a struct of five inside one of four, opened. -/
namespace Opened
open Go Go.RowKit Go.ChangeShapes Go.WideShapes Go.ChangeAt Go.Joins Go.Deep Go.WideElems Go.Maps
set_option linter.unusedVariables false
variable {H : Type} {enc : TypeId × Value → H} {P : Program} {w : World} {base : Nat} {spare : Nat → Bool} {held : Bool}

theorem array5 {α : Type} {cs : Array α} (h : cs.size = 5) : ∃ c0 c1 c2 c3 c4, cs = #[c0, c1, c2, c3, c4] := by
  obtain ⟨l⟩ := cs
  match l, h with
  | [c0, c1, c2, c3, c4], _ => exact ⟨c0, c1, c2, c3, c4, rfl⟩
theorem array8 {α : Type} {cs : Array α} (h : cs.size = 8) : ∃ c0 c1 c2 c3 c4 c5 c6 c7, cs = #[c0, c1, c2, c3, c4, c5, c6, c7] := by
  obtain ⟨l⟩ := cs
  match l, h with
  | [c0, c1, c2, c3, c4, c5, c6, c7], _ => exact ⟨c0, c1, c2, c3, c4, c5, c6, c7, rfl⟩
/-- Five fields of one cell each, in a row. -/
theorem trod_five {t : TypeId} {f0 f1 f2 f3 f4 : Field} {fuel : Nat} {c0 c1 c2 c3 c4 : Value} {x : DataW H × List MemPlace} (hs : P.underlying t = some (.struct #[f0, f1, f2, f3, f4])) (hone : oneCellFields P #[f0, f1, f2, f3, f4] = true)
    (h : DataW.trod enc P w base spare held fuel t [c0, c1, c2, c3, c4] = some x) :
    ∃ (y0 y1 y2 y3 y4 : DataW H × List MemPlace) (n : Nat), DataW.trod enc P w base spare held n f0.type [c0] = some y0 ∧ DataW.trod enc P w base spare held n f1.type [c1] = some y1 ∧ DataW.trod enc P w base spare held n f2.type [c2] = some y2 ∧ DataW.trod enc P w base spare held n f3.type [c3] = some y3 ∧ DataW.trod enc P w base spare held n f4.type [c4] = some y4 := by
  obtain ⟨xs, n, _, rfl, hl, hlen, hf⟩ := DataW.trod_struct hs h
  obtain ⟨o0, k0⟩ := hone_of hone 0 f0 rfl
  obtain ⟨o1, k1⟩ := hone_of hone 1 f1 rfl
  obtain ⟨o2, k2⟩ := hone_of hone 2 f2 rfl
  obtain ⟨o3, k3⟩ := hone_of hone 3 f3 rfl
  obtain ⟨o4, k4⟩ := hone_of hone 4 f4 rfl
  match xs, hlen with
  | [y0, y1, y2, y3, y4], _ => exact ⟨y0, y1, y2, y3, y4, n, by simpa [o0, k0] using hf 0 f0 rfl, by simpa [o1, k1] using hf 1 f1 rfl, by simpa [o2, k2] using hf 2 f2 rfl, by simpa [o3, k3] using hf 3 f3 rfl, by simpa [o4, k4] using hf 4 f4 rfl⟩
theorem open_five {r : Reach} {b0 : Nat} {t : TypeId} {f0 f1 f2 f3 f4 : Field} {v : Value} {d : DataW H} {p : List MemPlace} (hs : P.underlying t = some (.struct #[f0, f1, f2, f3, f4])) (hone : oneCellFields P #[f0, f1, f2, f3, f4] = true) (hC : P.cellsOf t = 5)
    (hv : Value.okWide P w r b0 t v) (h : DataW.Trod enc P w base spare held t v d p) :
    ∃ (c0 c1 c2 c3 c4 : Value) (y0 y1 y2 y3 y4 : DataW H × List MemPlace) (n : Nat), v = .agg #[c0, c1, c2, c3, c4] ∧
      DataW.trod enc P w base spare held n f0.type [c0] = some y0 ∧ DataW.trod enc P w base spare held n f1.type [c1] = some y1 ∧ DataW.trod enc P w base spare held n f2.type [c2] = some y2 ∧ DataW.trod enc P w base spare held n f3.type [c3] = some y3 ∧ DataW.trod enc P w base spare held n f4.type [c4] = some y4 := by
  obtain ⟨cs, rfl, hsz⟩ := okWide_struct hs hv
  obtain ⟨c0, c1, c2, c3, c4, rfl⟩ := array5 (hsz.trans hC)
  obtain ⟨fuel, hf⟩ := h
  obtain ⟨y0, y1, y2, y3, y4, n, h0, h1, h2, h3, h4⟩ := trod_five hs hone (c0 := c0) (c1 := c1) (c2 := c2) (c3 := c3) (c4 := c4) (by simpa [Value.cells] using hf)
  exact ⟨c0, c1, c2, c3, c4, y0, y1, y2, y3, y4, n, rfl, h0, h1, h2, h3, h4⟩
theorem open_nest {r : Reach} {b0 : Nat} {t : TypeId} {g f1 f2 f3 : Field} {fs : Array Field} {v : Value} {d : DataW H} {p : List MemPlace} (hs : P.underlying t = some (.struct #[g, f1, f2, f3]))
    (og : g.offset = 0) (kg : P.cellsOf g.type = 5) (o1 : f1.offset = 5) (k1 : P.cellsOf f1.type = 1) (o2 : f2.offset = 6) (k2 : P.cellsOf f2.type = 1) (o3 : f3.offset = 7) (k3 : P.cellsOf f3.type = 1) (hC : P.cellsOf t = 8)
    (hv : Value.okWide P w r b0 t v) (h : DataW.Trod enc P w base spare held t v d p) :
    ∃ (c0 c1 c2 c3 c4 c5 c6 c7 : Value) (y y1 y2 y3 : DataW H × List MemPlace) (n : Nat), v = .agg #[c0, c1, c2, c3, c4, c5, c6, c7] ∧
      DataW.trod enc P w base spare held n g.type [c0, c1, c2, c3, c4] = some y ∧ DataW.trod enc P w base spare held n f1.type [c5] = some y1 ∧ DataW.trod enc P w base spare held n f2.type [c6] = some y2 ∧ DataW.trod enc P w base spare held n f3.type [c7] = some y3 := by
  obtain ⟨cs, rfl, hsz⟩ := okWide_struct hs hv
  obtain ⟨c0, c1, c2, c3, c4, c5, c6, c7, rfl⟩ := array8 (hsz.trans hC)
  obtain ⟨fuel, hf⟩ := h
  obtain ⟨y0, y1, y2, y3, n, hx, _, h0, h1, h2, h3⟩ := trod_struct4 hs hf
  exact ⟨c0, c1, c2, c3, c4, c5, c6, c7, y0, y1, y2, y3, n, rfl, by simpa [Value.cells, og, kg] using h0, by simpa [Value.cells, o1, k1] using h1, by simpa [Value.cells, o2, k2] using h2, by simpa [Value.cells, o3, k3] using h3⟩
end Opened

/- The answers of frame that the document gives; what the laws on groups share. -/
namespace Go.Proofs.Ytkjhjpaacpcnmaa
open Go.RowKit Vecm Opened Wirem Txt Frm Blkm Grpm
open Crcm (bys)
set_option linter.unusedVariables false

set_option maxRecDepth 100000 in
set_option maxHeartbeats 400000 in
theorem fown_any (q : Int) (a : Option Addr) (n c : Nat) (w : World) : Calls Try.prog 18 #[.agg #[.int .i64 q, .slice a n c]] w fun e w' => e = .returned (.agg #[.int .i64 q, .slice a n c]) ∧ Below w.heap.size w w' := by
  have HB : Hid (∀ a b : Obj, Below w.heap.size w ((w.alloc a).alloc b)) := show ∀ a b, _ from fun a b => ((Below.refl _ _).alloc (Nat.le_refl _) _).alloc (by simp) _
  have HR : Hid (∀ o, Row ((w.alloc o).alloc (.cells #[.int .i64 q, .slice a n c] 30)) (w.heap.size + 1) 30 #[.int .i64 q, .slice a n c]) := show ∀ o, _ from fun o => by
    have := Row.new (w.alloc o) 30 #[.int .i64 q, .slice a n c]
    rwa [World.size_alloc] at this
  go_enter Try.func18, Try.ntmps18
  go_wp2
  exact bodyPost_ret (v := .agg #[.int .i64 q, .slice a n c]) (results_cell_row (p := 2) (ty := 30) (by rfl) _ _ (w.heap.size + 1) 30 #[.int .i64 q, .slice a n c] (0, 0) _ rfl (HR.out _) Try.underlying30 rfl (by kernel_rfl)) rfl ⟨rfl, HB.out _ _⟩

def lk : Ch := ⟨⟨#[107]⟩, ⟨#[]⟩, true⟩
theorem lk_ok : grE 3 [lk] = 0 := by
  refine grE_zero.2 ⟨ckE_zero.2 ⟨by decide, by decide, fun c hc => ?_⟩, by decide, by decide⟩
  simp only [List.mem_singleton] at hc
  subst hc
  refine chE_zero.2 ⟨by decide, by decide, fun _ => rfl⟩
theorem lk_size : (grS 3 [lk]).size = 17 := by
  rw [grS_size lk_ok]
  have : (boS [lk]).size = 4 := by decide
  omega
theorem lno_any : ckE [⟨⟨#[]⟩, ⟨#[]⟩, false⟩] = 7 := by decide
theorem lx : rdE ⟨#[120]⟩ = 5 := rd_form (by decide) (by decide)
theorem isG_one (w : World) (q : Ch) (hq : ChW q) : IsG (w.alloc (.cells (chC q) 62)) (some ⟨w.heap.size, 0, none⟩) 1 [q] := by
  have hr := Row.new w 62 (chC q)
  refine ⟨rfl, by unfold maxLen; omega, fun x hx => by simp only [List.mem_singleton] at hx; subst hx; exact hq, fun _ => ⟨_, _, rfl, hr.lt, fun i hi => ?_⟩⟩
  obtain rfl : i = 0 := by omega
  exact ⟨hr.cell rfl, hr.cell rfl, hr.cell rfl⟩
/-- What is as it was below a world's end, with a group in memory. -/
theorem isG_alloc {w : World} {a : Option Addr} {n : Nat} {l : List Ch} (h : IsG w a n l) (o : Obj) : IsG (w.alloc o) a n l := h.below ((Below.refl _ _).alloc (Nat.le_refl _) o)

set_option maxRecDepth 100000 in
set_option maxHeartbeats 4000000 in
theorem live19_any (w : World) :
    Calls Try.prog 16 #[] w fun e w' => e = .returned (.bool true) ∧ Below w.heap.size w w' := by
  have lz := lk_size
  obtain ⟨S, hS⟩ : ∃ S, S = grS 3 [lk] := ⟨_, rfl⟩
  have G0 : Hid (IsG ((w.alloc (.cells #[.string ⟨#[107]⟩, .string ⟨#[]⟩, .bool true] 62)).alloc (.cells #[.int .i64 3, .slice (some ⟨w.heap.size, 0, none⟩) 1 1] 30)) (some ⟨w.heap.size, 0, none⟩) 1 [lk]) := show IsG _ _ _ _ from isG_alloc (isG_one w lk ⟨by decide, by decide⟩) _
  have B0 : Hid (Below w.heap.size w ((w.alloc (.cells #[.string ⟨#[107]⟩, .string ⟨#[]⟩, .bool true] 62)).alloc (.cells #[.int .i64 3, .slice (some ⟨w.heap.size, 0, none⟩) 1 1] 30))) := ((Below.refl _ _).alloc (Nat.le_refl _) _).alloc (by simp) _
  have R0 : Hid (Row ((w.alloc (.cells #[.string ⟨#[107]⟩, .string ⟨#[]⟩, .bool true] 62)).alloc (.cells #[.int .i64 3, .slice (some ⟨w.heap.size, 0, none⟩) 1 1] 30)) (w.heap.size + 1) 30 #[.int .i64 3, .slice (some ⟨w.heap.size, 0, none⟩) 1 1]) := show Row _ _ _ _ by
    have := Row.new (w.alloc (.cells #[.string ⟨#[107]⟩, .string ⟨#[]⟩, .bool true] 62)) 30 #[.int .i64 3, .slice (some ⟨w.heap.size, 0, none⟩) 1 1]
    rwa [World.size_alloc] at this
  have C1 : Hid (∀ W a c, IsG W a 1 [lk] → Calls Try.prog 17 #[.agg #[.int .i64 3, .slice a 1 c]] W fun e w' => e = .returned (.tuple #[.string S, .int .i64 0]) ∧ Below W.heap.size W w') := show ∀ W a c, _ → _ from fun W a c h => by
    have := fwrite_any (cap := c) 3 h (fun x hx => by simp only [List.mem_singleton] at hx; subst hx; decide) (by decide)
    unfold WgP at this
    rw [lk_ok, ← hS] at this
    exact this
  have hrd := gr_rd lk_ok ⟨#[120]⟩
  rw [← hS] at hrd
  obtain ⟨hr1, hr2, hr3, hr4⟩ := hrd
  have hSz : S.size = 17 := by rw [hS]; exact lz
  have zx : (⟨#[120]⟩ : ByteArray).size = 1 := rfl
  have hSx : (S ++ ⟨#[120]⟩).size ≤ 1073741824 := by rw [ByteArray.size_append]; omega
  have C2 : Hid (∀ W, Calls Try.prog 22 #[.string (S ++ ⟨#[120]⟩)] W fun e w' => ∃ a c, e = .returned (.tuple #[.agg #[.int .i64 3, .slice a 1 c], .string ⟨#[120]⟩, .int .i64 0]) ∧ IsG w' a 1 [lk] ∧ Below W.heap.size W w') := show ∀ W, _ from fun W => by
    generalize S ++ ⟨#[120]⟩ = SX at hr1 hr2 hr3 hr4 hSx ⊢
    refine Calls.mono (fread_any SX W hSx) ?_
    rintro e w' ⟨a, n, c, h1, h2, h3, h4⟩
    rw [hr1, hr2, hr4] at h1
    rw [hr3] at h2
    obtain rfl : 1 = n := h2.1
    exact ⟨a, c, h1, h2, h4⟩
  have C3 : Hid (∀ W, Calls Try.prog 22 #[.string (S.extract 0 16)] W fun e w' => ∃ a n c, e = .returned (.tuple #[.agg #[.int .i64 0, .slice a n c], .string ⟨#[]⟩, .int .i64 4]) ∧ Below W.heap.size W w') := show ∀ W, _ from fun W => by
    have he : rdE (S.extract 0 16) = 4 := by rw [hS]; exact gr_cut lk_ok (by rw [lz]; decide)
    have h0 : rdE (S.extract 0 16) ≠ 0 := by rw [he]; decide
    have hz : (S.extract 0 16).size ≤ 1073741824 := by rw [ByteArray.size_extract]; omega
    generalize S.extract 0 16 = SX at he h0 hz ⊢
    refine Calls.mono (fread_any SX W hz) ?_
    rintro e w' ⟨a, n, c, h1, h2, h3, h4⟩
    rw [he, rdN_no h0, rdR_no h0] at h1
    exact ⟨a, n, c, h1, h4⟩
  have C4 : Hid (∀ W, Calls Try.prog 22 #[.string ⟨#[120]⟩] W fun e w' => ∃ a n c, e = .returned (.tuple #[.agg #[.int .i64 0, .slice a n c], .string ⟨#[]⟩, .int .i64 5]) ∧ Below W.heap.size W w') := show ∀ W, _ from fun W => by
    have h0 : rdE ⟨#[120]⟩ ≠ 0 := by rw [lx]; decide
    have hz : (⟨#[120]⟩ : ByteArray).size ≤ 1073741824 := by omega
    have hlx := lx
    generalize (⟨#[120]⟩ : ByteArray) = SX at h0 hz hlx ⊢
    refine Calls.mono (fread_any SX W hz) ?_
    rintro e w' ⟨a, n, c, h1, h2, h3, h4⟩
    rw [hlx, rdN_no h0, rdR_no h0] at h1
    exact ⟨a, n, c, h1, h4⟩
  have C5 : Hid (∀ W, Calls Try.prog 17 #[.agg #[.int .i64 0, .slice none 0 0]] W fun e w' => e = .returned (.tuple #[.string ⟨#[]⟩, .int .i64 1]) ∧ Below W.heap.size W w') := show ∀ W, _ from fun W => by
    have := fwrite_any (cap := 0) 0 (IsG.nil W) (fun x hx => by cases hx) (by decide)
    unfold WgP at this
    have he : grE 0 [] = 1 := by rw [grE_ck (by decide)]; decide
    rw [grS_no (by rw [he]; decide), he] at this
    exact this
  have C6 : Hid (∀ W a c a' c', IsG W a 1 [lk] → IsG W a' 1 [lk] → Calls Try.prog 24 #[.slice a 1 c, .slice a' 1 c'] W fun e w' => e = .returned (.bool true) ∧ Below W.heap.size W w') := show ∀ W a c a' c', _ → _ → _ from fun W a c a' c' h h' => by
    have := chgs_any (cap := c) (cap' := c') h h'
    rw [show sameG [lk] [lk] = true from sameG_iff.2 rfl] at this
    exact this
  have C7 : Hid (∀ W a c, IsG W a 1 [⟨⟨#[]⟩, ⟨#[]⟩, false⟩] → Calls Try.prog 20 #[.slice a 1 c] W fun e w' => e = .returned (.int .i64 7) ∧ Below W.heap.size W w') := show ∀ W a c, _ → _ from fun W a c h => by
    have := fcheck_any (cap := c) h (fun x hx => by simp only [List.mem_singleton] at hx; subst hx; decide)
    rw [lno_any] at this
    exact this
  have j1 : ¬ 9223372036854775807 < (S.size : Int) + ((⟨#[120]⟩ : ByteArray).size : Int) := by omega
  have hsz : (S.size : Int) = 17 := by omega
  clear lz hr1 hr2 hr3 hr4 hSx zx hS
  go_enter Try.func16, Try.ntmps16
  go_wp2_with fail
  refine Calls.mono (C1.out _ _ _ G0.out) ?_
  rintro e w1 ⟨rfl, hb⟩
  have B1 : Hid (Below w.heap.size w w1) := B0.out.trans (hb.mono B0.out.size)
  have G1 : Hid (IsG w1 (some ⟨w.heap.size, 0, none⟩) 1 [lk]) := G0.out.below hb
  have R1 : Hid (Row w1 (w.heap.size + 1) 30 #[.int .i64 3, .slice (some ⟨w.heap.size, 0, none⟩) 1 1]) := R0.out.kept (Fr.of_below (fp := []) hb) (by simp)
  clear hb G0 B0 R0 C1
  go_wp2_with fail
  refine Calls.mono (C2.out _) ?_
  rintro e w2 ⟨ha, hc, rfl, hg, hb⟩
  have B2' : Below w.heap.size w w2 := B1.out.trans (hb.mono B1.out.size)
  have B2 : Hid (Below w.heap.size w (w2.alloc (.cells #[.int .i64 3, .slice ha 1 hc] 30))) := B2'.alloc B2'.size _
  have G2 : Hid (IsG (w2.alloc (.cells #[.int .i64 3, .slice ha 1 hc] 30)) (some ⟨w.heap.size, 0, none⟩) 1 [lk]) := isG_alloc (G1.out.below hb) _
  have R2 : Hid (Row (w2.alloc (.cells #[.int .i64 3, .slice ha 1 hc] 30)) (w.heap.size + 1) 30 #[.int .i64 3, .slice (some ⟨w.heap.size, 0, none⟩) 1 1]) := (R1.out.kept (Fr.of_below (fp := []) hb) (by simp)).alloc _
  have H2 : Hid (IsG (w2.alloc (.cells #[.int .i64 3, .slice ha 1 hc] 30)) ha 1 [lk]) := isG_alloc hg _
  have Q2 : Hid (Row (w2.alloc (.cells #[.int .i64 3, .slice ha 1 hc] 30)) w2.heap.size 30 #[.int .i64 3, .slice ha 1 hc]) := Row.new _ _ _
  clear hb hg B2' G1 B1 R1 C2
  go_wp2_with fail
  refine Calls.mono (C3.out _) ?_
  rintro e w3 ⟨a3, n3, c3, rfl, hb⟩
  have B3' : Below w.heap.size w w3 := B2.out.trans (hb.mono B2.out.size)
  have B3 : Hid (Below w.heap.size w (w3.alloc (.cells #[.int .i64 0, .slice a3 n3 c3] 30))) := B3'.alloc B3'.size _
  have G3 : Hid (IsG (w3.alloc (.cells #[.int .i64 0, .slice a3 n3 c3] 30)) (some ⟨w.heap.size, 0, none⟩) 1 [lk]) := isG_alloc (G2.out.below hb) _
  have R3 : Hid (Row (w3.alloc (.cells #[.int .i64 0, .slice a3 n3 c3] 30)) (w.heap.size + 1) 30 #[.int .i64 3, .slice (some ⟨w.heap.size, 0, none⟩) 1 1]) := (R2.out.kept (Fr.of_below (fp := []) hb) (by simp)).alloc _
  have H3 : Hid (IsG (w3.alloc (.cells #[.int .i64 0, .slice a3 n3 c3] 30)) ha 1 [lk]) := isG_alloc (H2.out.below hb) _
  have Q3 : Hid (Row (w3.alloc (.cells #[.int .i64 0, .slice a3 n3 c3] 30)) w2.heap.size 30 #[.int .i64 3, .slice ha 1 hc]) := (Q2.out.kept (Fr.of_below (fp := []) hb) (by simp)).alloc _
  clear hb B3' G2 B2 R2 H2 Q2 C3
  go_wp2_with fail
  refine Calls.mono (C4.out _) ?_
  rintro e w4 ⟨a4, n4, c4, rfl, hb⟩
  have B4' : Below w.heap.size w w4 := B3.out.trans (hb.mono B3.out.size)
  have B4 : Hid (Below w.heap.size w (w4.alloc (.cells #[.int .i64 0, .slice a4 n4 c4] 30))) := B4'.alloc B4'.size _
  have G4 : Hid (IsG (w4.alloc (.cells #[.int .i64 0, .slice a4 n4 c4] 30)) (some ⟨w.heap.size, 0, none⟩) 1 [lk]) := isG_alloc (G3.out.below hb) _
  have R4 : Hid (Row (w4.alloc (.cells #[.int .i64 0, .slice a4 n4 c4] 30)) (w.heap.size + 1) 30 #[.int .i64 3, .slice (some ⟨w.heap.size, 0, none⟩) 1 1]) := (R3.out.kept (Fr.of_below (fp := []) hb) (by simp)).alloc _
  have H4 : Hid (IsG (w4.alloc (.cells #[.int .i64 0, .slice a4 n4 c4] 30)) ha 1 [lk]) := isG_alloc (H3.out.below hb) _
  have Q4 : Hid (Row (w4.alloc (.cells #[.int .i64 0, .slice a4 n4 c4] 30)) w2.heap.size 30 #[.int .i64 3, .slice ha 1 hc]) := (Q3.out.kept (Fr.of_below (fp := []) hb) (by simp)).alloc _
  clear hb B4' G3 B3 R3 H3 Q3 C4
  go_wp2_with fail
  refine Calls.mono (C5.out _) ?_
  rintro e w5 ⟨rfl, hb⟩
  have B5 : Hid (Below w.heap.size w w5) := B4.out.trans (hb.mono B4.out.size)
  have G5 : Hid (IsG w5 (some ⟨w.heap.size, 0, none⟩) 1 [lk]) := G4.out.below hb
  have H5 : Hid (IsG w5 ha 1 [lk]) := H4.out.below hb
  have r5 := R4.out.kept (Fr.of_below (fp := []) hb) (by simp)
  have q5 := Q4.out.kept (Fr.of_below (fp := []) hb) (by simp)
  have d1 : w5.cell? ⟨w.heap.size + 1, 1, none⟩ = some (.slice (some ⟨w.heap.size, 0, none⟩) 1 1) := r5.cell rfl
  have d2 : w5.cell? ⟨w2.heap.size, 0, none⟩ = some (.int .i64 3) := q5.cell rfl
  have d3 : w5.cell? ⟨w2.heap.size, 1, none⟩ = some (.slice ha 1 hc) := q5.cell rfl
  clear hb G4 B4 R4 H4 Q4 C5 r5 q5
  go_wp2_with fail
  refine Calls.mono (C6.out _ _ _ _ _ H5.out G5.out) ?_
  rintro e w6 ⟨rfl, hb⟩
  have B6 : Hid (Below w.heap.size w w6) := B5.out.trans (hb.mono B5.out.size)
  clear hb d1 d2 d3 B5 G5 H5 C6
  go_wp2_with fail
  refine Calls.mono (C7.out _ _ _ (isG_one w6 ⟨⟨#[]⟩, ⟨#[]⟩, false⟩ ⟨by decide, by decide⟩)) ?_
  rintro e w7 ⟨rfl, hb⟩
  have B7 : Hid (Below w.heap.size w w7) := (B6.out.alloc B6.out.size _).trans (hb.mono (B6.out.alloc B6.out.size _).size)
  clear hb B6 C7
  go_wp2
  go_ret
  exact ⟨rfl, B7.out⟩

/-- A group that came in, boxed, and its changes. -/
def Gx (w W : World) (q : Int) (a : Option Addr) (n c : Nat) (l : List Ch) : Prop := Below w.heap.size w W ∧ Row W w.heap.size 24 #[.int .i64 q, .slice a n c] ∧ IsG W a n l
theorem Gx.new {w : World} {a : Option Addr} {n c : Nat} {l : List Ch} (q : Int) (h : IsG w a n l) : Gx w (w.alloc (.cells #[.int .i64 q, .slice a n c] 24)) q a n c l := ⟨(Below.refl _ _).alloc (Nat.le_refl _) _, Row.new _ _ _, isG_alloc h _⟩
theorem Gx.put {w W W' : World} {q : Int} {a : Option Addr} {n c : Nat} {l : List Ch} (h : Gx w W q a n c l) (hb : Below W.heap.size W W') : Gx w W' q a n c l :=
  ⟨h.1.trans (hb.mono h.1.size), h.2.1.kept (Fr.of_below (fp := []) hb) (by simp), h.2.2.below hb⟩
theorem Gx.cells {w W : World} {q : Int} {a : Option Addr} {n c : Nat} {l : List Ch} (h : Gx w W q a n c l) : W.cell? ⟨w.heap.size, 0, none⟩ = some (.int .i64 q) ∧ W.cell? ⟨w.heap.size, 1, none⟩ = some (.slice a n c) := ⟨h.2.1.cell rfl, h.2.1.cell rfl⟩
end Go.Proofs.Ytkjhjpaacpcnmaa
