/- What the program's Read of a group returns. -/
import Derived.Test.YtkjhjpaacpcnmaaJ3
import Derived.RangeFuncNested
import Derived.RangeFuncBound
import Derived.RangeFuncCalls
import Derived.RangeFuncLeaves
import Derived.RangeFuncBox
import Derived.Sort.QuietIn
import Derived.Laws.AppendOwn
import Derived.OwnWalkIn

namespace Go.Proofs.Ytkjhjpaacpcnmaa
open Go.RowKit Vecm Opened Wirem Txt Frm Blkm Grpm
open Crcm (bys)
set_option linter.unusedVariables false

theorem results_row_tmp2 {fn : Func} {p u v : Tmp} {ty : TypeId} {P : Program} (h : fn.results = #[.cell p ty, .tmp u, .tmp v]) (tmps : Array Value) (w : World) (g : Nat) (cs : Array Value)
    (hp : tmps.getD p undef = .pointer (some ⟨g, 0, none⟩)) (hl : (loadVar ty ⟨g, 0, none⟩).run P w = .ok (.agg cs) w) :
    (results fn tmps).run P w = .ok (.tuple #[.agg cs, tmps.getD u undef, tmps.getD v undef]) w := by
  have hp' : tmps[p]?.getD undef = .pointer (some ⟨g, 0, none⟩) := by simpa using hp
  simp only [results, h]
  simp [Result.andThen, hp', asAddr, hl]
def zgr : Array Value := #[.int .i64 0, .slice none 0 0]
theorem zgr_one : zgr.all (·.oneCell') = true := by
  rw [Array.all_eq_true_iff_forall_mem]
  intro v hv
  simp only [zgr, List.mem_toArray, List.mem_cons, List.not_mem_nil, or_false] at hv
  rcases hv with rfl | rfl <;> rfl
theorem grv_one (q : Int) (a : Option Addr) (n c : Nat) : (#[Value.int .i64 q, .slice a n c] : Array Value).all (·.oneCell') = true := by
  rw [Array.all_eq_true_iff_forall_mem]
  intro v hv
  simp only [List.mem_toArray, List.mem_cons, List.not_mem_nil, or_false] at hv
  rcases hv with rfl | rfl <;> rfl
set_option maxRecDepth 100000 in
theorem load_gr (w : World) (g : Nat) (cs : Array Value) (h : Row w g 30 cs) (hz : cs.size = 2) : (loadVar 30 ⟨g, 0, none⟩).run Try.prog w = .ok (.agg cs) w :=
  run_loadVar_row w g 30 30 cs (0, 0) _ h Try.underlying30 rfl (by rw [hz]; kernel_rfl)
/-- What Read returns: a group, what stands behind it, an error. -/
def GrP (w : World) (s : ByteArray) (e : Ending) (w' : World) : Prop :=
  ∃ a n c, e = .returned (.tuple #[.agg #[.int .i64 (rdN s), .slice a n c], .string (rdR s), .int .i64 (rdE s)]) ∧ IsG w' a n (rdL s) ∧ Own3 w' w.heap.size a ∧ Below w.heap.size w w'
theorem GrP.no {w : World} {s : ByteArray} {k : Int} (h : rdE s = k) (hk : k ≠ 0) {w' : World} (hb : Below w.heap.size w w') : GrP w s (.returned (.tuple #[.agg zgr, .string ⟨#[]⟩, .int .i64 k])) w' := by
  have h0 : rdE s ≠ 0 := by rw [h]; exact hk
  refine ⟨none, 0, 0, ?_, ?_, Own3.none _ _, hb⟩
  · rw [rdN_no h0, rdR_no h0, h]; rfl
  · rw [rdL_no h0]; exact IsG.nil _
theorem ex_ex (s : ByteArray) (a b c : Nat) (h : b ≤ a) : (s.extract 0 a).extract c b = s.extract c b := by
  refine bys_inj ?_
  rw [bys_extract, bys_extract, bys_extract, List.drop_zero, List.take_take, Nat.min_eq_left h]
/-- The parts of a group's bytes as the program cuts them. -/
theorem rd_parts {s : ByteArray} (h9 : ¬ s.size < 9) : cutS (s.extract 1 s.size) 4 = s.extract 5 s.size ∧ cutS (s.extract 5 s.size) 4 = s.extract 9 s.size ∧ cutN (s.extract 1 s.size) 4 = rdQ s ∧ cutN (s.extract 5 s.size) 4 = ((rdM s : Nat) : Int) ∧ rdM s ≤ 4294967295 ∧ 0 ≤ rdQ s ∧ rdQ s ≤ 4294967295 := by
  have q1 : cutS (s.extract 1 s.size) 4 = s.extract 5 s.size := cut_from s 1 4 (by omega) (by omega) (by omega)
  have q2 : cutS (s.extract 5 s.size) 4 = s.extract 9 s.size := cut_from s 5 4 (by omega) (by omega) (by omega)
  have n1 := cutN_nat (s.extract 5 s.size)
  have n2 : 0 ≤ rdQ s ∧ rdQ s ≤ 4294967295 := cutN_nat (s.extract 1 s.size)
  have n3 : rdM s = (cutN (s.extract 5 s.size) 4).toNat := rfl
  exact ⟨q1, q2, rfl, by omega, by omega, n2.1, n2.2⟩
theorem rd_sum_iff {s : ByteArray} (hm : ¬ s.size < 13 + rdM s) : smB s = true ↔ sumT ((s.extract 0 (13 + rdM s)).extract 0 (9 + rdM s)) = (s.extract 0 (13 + rdM s)).extract (9 + rdM s) (s.extract 0 (13 + rdM s)).size := by
  rw [smB_iff, rdS, ex_ex _ _ _ _ (by omega), show (s.extract 0 (13 + rdM s)).size = 13 + rdM s by rw [ByteArray.size_extract]; omega, ex_ex _ _ _ _ (Nat.le_refl _), ← mid_eq, show 9 + rdM s + 4 = 13 + rdM s by omega]
  exact eq_comm
theorem rd_again {s : ByteArray} (h0 : fb s = 71) (h13 : ¬ s.size < 13) (hm : ¬ s.size < 13 + rdM s) (hs : smB s = true) :
    (grE (rdQ s) (cof 64 (rdB s)) = 0 ∧ grS (rdQ s) (cof 64 (rdB s)) = s.extract 0 (13 + rdM s) ↔ clB s = true) ∧ (clB s = true → rdE s = 0 ∧ rdL s = cof 64 (rdB s) ∧ rdN s = rdQ s ∧ rdR s = s.extract (13 + rdM s) s.size) := by
  have key : clB s = true → rdE s = 0 ∧ rdL s = cof 64 (rdB s) ∧ rdN s = rdQ s ∧ rdR s = s.extract (13 + rdM s) s.size := fun hc => by
    have he := rd_yes h0 h13 hm hs hc
    obtain ⟨l, h1, h2⟩ := clB_iff.1 hc
    have h3 := cof_pr 64 (rdB s) l (ckE_zero.1 h2).2.1 h1
    exact ⟨he, by rw [rdL, if_pos he, h1, h3]; rfl, if_pos he, if_pos he⟩
  refine ⟨⟨fun ⟨h1, h2⟩ => ?_, fun hc => ?_⟩, key⟩
  · have hr := gr_rd h1 (s.extract (13 + rdM s) s.size)
    rw [h2, cut_join] at hr
    exact (rd_zero hr.1).2.2.2.2
  · obtain ⟨k1, k2, k3, k4⟩ := key hc
    obtain ⟨g1, g2⟩ := rd_gr k1
    rw [k2, k3] at g1 g2
    refine ⟨g1, ?_⟩
    rw [k4] at g2
    have hz := congrArg ByteArray.size g2
    rw [ByteArray.size_append, size_from] at hz
    have := join_to (grS (rdQ s) (cof 64 (rdB s))) (s.extract (13 + rdM s) s.size) (n := 13 + rdM s) (by omega)
    rw [g2] at this
    exact this.symm

set_option maxRecDepth 100000 in
set_option maxHeartbeats 4000000 in
theorem fread_any (s : ByteArray) (w : World) (hs : s.size ≤ 1073741824) : Calls Try.prog 22 #[.string s] w (GrP w s) := by
  have HR : Hid (Row (w.alloc (.cells zgr 30)) w.heap.size 30 zgr) := Row.new _ _ _
  have HB : Hid (Below w.heap.size w (w.alloc (.cells zgr 30))) := (Below.refl _ _).alloc (Nat.le_refl _) _
  by_cases hz : s.size = 0
  · have HF : Hid (∀ w', Below w.heap.size w w' → GrP w s (.returned (.tuple #[.agg zgr, .string ⟨#[]⟩, .int .i64 4])) w') := show ∀ w', _ → _ from fun w' hb => GrP.no (rd_nil hz) (by decide) hb
    obtain rfl := str_none hz
    clear hz hs
    go_enter Try.func22, Try.ntmps22
    go_wp2
    (try simp only [Exit.inBlock, Exit.then])
    refine bodyPost_ret (v := .tuple #[.agg zgr, .string ⟨#[]⟩, .int .i64 4]) (results_row_tmp2 (p := 2) (u := 3) (v := 4) rfl _ _ w.heap.size zgr rfl (load_gr _ _ _ HR.out rfl)) rfl (HF.out _ HB.out)
  have hne : (s.toList == []) = false := str_some hz
  have hpx : hpB s 71 = decide (fb s = 71) := by simp [hpB, hz]
  have HP : Hid (∀ W, Calls Try.prog 41 #[.string s, .string ⟨#[71]⟩] W fun e w' => e = .returned (.bool (hpB s 71)) ∧ w' = W) := show ∀ W, _ from fun W => spre_p71 s W
  rw [hpx] at HP
  clear hpx
  by_cases h71 : fb s = 71
  case neg =>
    have HF : Hid (∀ w', Below w.heap.size w w' → GrP w s (.returned (.tuple #[.agg zgr, .string ⟨#[]⟩, .int .i64 5])) w') := show ∀ w', _ → _ from fun w' hb => GrP.no (rd_form hz h71) (by decide) hb
    have hd : decide (fb s = 71) = false := decide_eq_false h71
    rw [hd] at HP
    clear hz hs h71 hd
    go_enter Try.func22, Try.ntmps22
    go_wp2_with (first | (go_at_call 41; refine same (HP.out _) ?_) | fail)
    go_wp2
    (try simp only [Exit.inBlock, Exit.then])
    refine bodyPost_ret (v := .tuple #[.agg zgr, .string ⟨#[]⟩, .int .i64 5]) (results_row_tmp2 (p := 2) (u := 3) (v := 4) rfl _ _ w.heap.size zgr rfl (load_gr _ _ _ HR.out rfl)) rfl (HF.out _ HB.out)
  have hd : decide (fb s = 71) = true := decide_eq_true h71
  rw [hd] at HP
  clear hd
  by_cases h9 : s.size < 9
  · have HF : Hid (∀ w', Below w.heap.size w w' → GrP w s (.returned (.tuple #[.agg zgr, .string ⟨#[]⟩, .int .i64 4])) w') := show ∀ w', _ → _ from fun w' hb => GrP.no (rd_short hz h71 (by omega)) (by decide) hb
    have h9i : (s.size : Int) < 9 := by omega
    clear hz hs h71 h9
    go_enter Try.func22, Try.ntmps22
    go_wp2_with (first | (go_at_call 41; refine same (HP.out _) ?_) | fail)
    go_wp2
    (try simp only [Exit.inBlock, Exit.then])
    refine bodyPost_ret (v := .tuple #[.agg zgr, .string ⟨#[]⟩, .int .i64 4]) (results_row_tmp2 (p := 2) (u := 3) (v := 4) rfl _ _ w.heap.size zgr rfl (load_gr _ _ _ HR.out rfl)) rfl (HF.out _ HB.out)
  have h9i : ¬ (s.size : Int) < 9 := by omega
  have hc1 : (1 : Int) ≤ (s.size : Int) := by omega
  obtain ⟨p1, p2, p3, p4, p5, p6, p7⟩ := rd_parts h9
  have HCU : Hid (∀ (r : ByteArray) W, r.size ≤ 1073741824 → Calls Try.prog 42 #[.string r, .int .i64 4] W fun e w' => e = .returned (.tuple #[.int .i64 (cutN r 4), .string (cutS r 4), .int .i64 (cutE r 4)]) ∧ Below W.heap.size W w') := show ∀ r W, _ → _ from fun r W hr => cut_any r 4 W (by omega)
  obtain ⟨M, hM⟩ : ∃ M, M = rdM s := ⟨_, rfl⟩
  obtain ⟨Q, hQ⟩ : ∃ Q, Q = rdQ s := ⟨_, rfl⟩
  obtain ⟨S1, hS1⟩ : ∃ S, S = s.extract 1 s.size := ⟨_, rfl⟩
  obtain ⟨S5, hS5⟩ : ∃ S, S = s.extract 5 s.size := ⟨_, rfl⟩
  obtain ⟨S9, hS9⟩ : ∃ S, S = s.extract 9 s.size := ⟨_, rfl⟩
  have z1 : S1.size ≤ s.size := by rw [hS1, size_from]; omega
  have z5 : S5.size ≤ s.size := by rw [hS5, size_from]; omega
  have z9 : S9.size + 9 = s.size := by rw [hS9, size_from]; omega
  have HC1 : Hid (∀ W, ∃ E : Int, Calls Try.prog 42 #[.string S1, .int .i64 4] W fun e w' => e = .returned (.tuple #[.int .i64 Q, .string S5, .int .i64 E]) ∧ Below W.heap.size W w') := show ∀ W, _ from fun W => ⟨_, by have := HCU.out S1 W (by omega); rw [hS1, p1, p3, ← hS5, ← hQ, ← hS1] at this; exact this⟩
  have HC5 : Hid (∀ W, ∃ E : Int, Calls Try.prog 42 #[.string S5, .int .i64 4] W fun e w' => e = .returned (.tuple #[.int .i64 (M : Int), .string S9, .int .i64 E]) ∧ Below W.heap.size W w') := show ∀ W, _ from fun W => ⟨_, by have := HCU.out S5 W (by omega); rw [hS5, p2, p4, ← hS9, ← hM, ← hS5] at this; exact this⟩
  rw [← hM] at p5
  rw [← hQ] at p6 p7
  have HS1 : Hid (S1 = s.extract 1 s.size) := hS1
  have HM : Hid (M = rdM s) := hM
  have HQ : Hid (Q = rdQ s) := hQ
  have hS1' := hS1.symm
  clear p1 p2 p3 p4 hM hQ hS1 hS5 hS9 HCU h9 z1 z5
  by_cases hm : s.size < 13 + M
  · have HF : Hid (∀ w', Below w.heap.size w w' → GrP w s (.returned (.tuple #[.agg zgr, .string ⟨#[]⟩, .int .i64 4])) w') := show ∀ w', _ → _ from fun w' hb => GrP.no (by
      by_cases h13 : s.size < 13
      · exact rd_short hz h71 h13
      · exact rd_less h71 h13 (by rw [← HM.out]; exact hm)) (by decide) hb
    have hlt : (S9.size : Int) - 4 < (M : Int) := by omega
    obtain ⟨E1, HD1⟩ := HC1.out (w.alloc (.cells zgr 30))
    have HD1' := show Hid (_) from HD1
    clear hz hs h71 hm HD1 HC1
    go_enter Try.func22, Try.ntmps22
    go_wp2_with (first | (go_at_call 41; refine same (HP.out _) ?_) | fail)
    refine Calls.mono HD1'.out ?_
    rintro e w1 ⟨rfl, hb⟩
    have HR1 : Hid (Row w1 w.heap.size 30 zgr) := HR.out.kept (Fr.of_below (fp := []) hb) (by simp)
    have HB1 : Hid (Below w.heap.size w w1) := HB.out.trans (hb.mono HB.out.size)
    obtain ⟨E2, HD2⟩ := HC5.out w1
    have HD2' := show Hid (_) from HD2
    clear hb HR HB HD1' HP HC5 HD2
    go_wp2_with fail
    refine Calls.mono HD2'.out ?_
    rintro e w2 ⟨rfl, hb⟩
    have HR : Hid (Row w2 w.heap.size 30 zgr) := HR1.out.kept (Fr.of_below (fp := []) hb) (by simp)
    have HB : Hid (Below w.heap.size w w2) := HB1.out.trans (hb.mono HB1.out.size)
    clear hb HR1 HB1 HD2'
    go_wp2_with (refine wpList_store_row rfl 30 _ _ rfl w.heap.size zgr rfl rfl 30 zgr HR.out (by kernel_rfl) (by rfl) zgr_one ?_)
    (try simp only [Exit.inBlock, Exit.then])
    refine bodyPost_ret (v := .tuple #[.agg zgr, .string ⟨#[]⟩, .int .i64 4]) (results_row_tmp2 (p := 2) (u := 3) (v := 4) rfl _ _ w.heap.size zgr rfl (load_gr _ _ _ (setRow_heap _ _ _ _ _ _ HR.out) rfl)) rfl (HF.out _ (below_setRow HB.out (Nat.le_refl _) _))
  have hm' : ¬ s.size < 13 + rdM s := by rw [← HM.out]; exact hm
  have h13' : ¬ s.size < 13 := by omega
  have HSI : Hid (smB s = true ↔ _) := rd_sum_iff hm'
  have HAG : Hid (smB s = true → _) := fun hsm => rd_again h71 h13' hm' hsm
  have HE6 : Hid (¬ smB s = true → rdE s = 6) := show _ → _ from fun h => rd_sum h71 h13' hm' h
  have HE5 : Hid (smB s = true → ¬ clB s = true → rdE s = 5) := show _ → _ → _ from fun h h2 => rd_none h71 h13' hm' h h2
  rw [← HM.out] at HSI HAG
  obtain ⟨E, hE⟩ : ∃ E, E = 13 + M := ⟨_, rfl⟩
  obtain ⟨F, hF⟩ : ∃ F, F = 9 + M := ⟨_, rfl⟩
  have HBD : Hid (rdB s = (s.extract 0 E).extract 9 F) := show _ = _ by rw [rdB, ← HM.out, ex_ex _ _ _ _ (by omega), hF]
  rw [← hE, ← hF] at HSI
  rw [← hE, ← HQ.out, HBD.out] at HAG
  obtain ⟨WH, hWH⟩ : ∃ W, W = s.extract 0 E := ⟨_, rfl⟩
  obtain ⟨RS, hRS⟩ : ∃ W, W = s.extract E s.size := ⟨_, rfl⟩
  have hWz : WH.size = E := by rw [hWH, ByteArray.size_extract]; omega
  rw [← hWH] at HSI HAG
  rw [← hRS] at HAG
  obtain ⟨H, hH⟩ : ∃ W, W = WH.extract 0 F := ⟨_, rfl⟩
  obtain ⟨T4, hT4⟩ : ∃ W, W = WH.extract F WH.size := ⟨_, rfl⟩
  obtain ⟨BD, hBD⟩ : ∃ W, W = WH.extract 9 F := ⟨_, rfl⟩
  have hHz : H.size ≤ 1073741824 := by rw [hH, ByteArray.size_extract]; omega
  have hBz : BD.size ≤ 1073741824 := by rw [hBD, ByteArray.size_extract]; omega
  rw [← hH, ← hT4] at HSI
  rw [← hBD] at HAG
  have HSU : Hid (∀ W, Calls Try.prog 35 #[.string H] W fun e w' => e = .returned (.string (sumT H)) ∧ Below W.heap.size W w') := show ∀ W, _ from fun W => fsumof_any H W (by omega)
  have HCG : Hid (∀ W, Calls Try.prog 43 #[.string BD] W (GivesG W (cof 64 BD))) := show ∀ W, _ from fun W => fchanges_any BD W hBz
  have HWR : Hid (∀ W a n c, IsG W a n (cof 64 BD) → Calls Try.prog 17 #[.agg #[.int .i64 Q, .slice a n c]] W fun e w' => e = .returned (.tuple #[.string (grS Q (cof 64 BD)), .int .i64 (grE Q (cof 64 BD))]) ∧ Below W.heap.size W w') := show ∀ W a n c, _ → _ from fun W a n c h => fwrite_any Q h (fun x hx => by have := cof_small 64 BD x hx; omega) (by omega)
  generalize cof 64 BD = L at HAG HCG HWR
  generalize sumT H = T at HSI HSU
  generalize grS Q L = G at HAG HWR
  generalize grE Q L = GE at HAG HWR
  have a1 : (9 : Int) + (M : Int) = (F : Int) := by omega
  have a2 : (F : Int) + 4 = (E : Int) := by omega
  have a3 : (E : Int) - 4 = (F : Int) := by omega
  have a3w : IntKind.i64.wrap ((E : Int) - 4) = (F : Int) := by rw [a3, IntKind.wrap_i64]; omega
  have b1 : (0 : Int) ≤ (E : Int) := by omega
  have b2 : (E : Int) ≤ (s.size : Int) := by omega
  have b3 : (0 : Int) ≤ (F : Int) := by omega
  have b4 : (F : Int) ≤ (WH.size : Int) := by omega
  have b5 : (9 : Int) ≤ (F : Int) := by omega
  have hlt : ¬ (S9.size : Int) - 4 < (M : Int) := by omega
  have hS9b : S9.size ≤ 1073741824 := by omega
  have e1 := hWH.symm
  have e2 := hRS.symm
  have e3 := hH.symm
  have e4 := hT4.symm
  have e5 := hBD.symm
  obtain ⟨E1, HD1⟩ := HC1.out (w.alloc (.cells zgr 30))
  have HD1' := show Hid (_) from HD1
  clear hz hs h71 hm hm' h13' HD1 HC1 hE hF hWH hRS hH hT4 hBD hWz hHz hBz p5 p6 p7 HBD z9
  go_enter Try.func22, Try.ntmps22
  go_wp2_with (first | (go_at_call 41; refine same (HP.out _) ?_) | fail)
  refine Calls.mono HD1'.out ?_
  rintro e w1 ⟨rfl, hb⟩
  have HR1 : Hid (Row w1 w.heap.size 30 zgr) := HR.out.kept (Fr.of_below (fp := []) hb) (by simp)
  have HB1 : Hid (Below w.heap.size w w1) := HB.out.trans (hb.mono HB.out.size)
  obtain ⟨E2, HD2⟩ := HC5.out w1
  have HD2' := show Hid (_) from HD2
  clear hb HR HB HD1' HP HC5 HD2
  go_wp2_with fail
  refine Calls.mono HD2'.out ?_
  rintro e w2 ⟨rfl, hb⟩
  have HR2 : Hid (Row w2 w.heap.size 30 zgr) := HR1.out.kept (Fr.of_below (fp := []) hb) (by simp)
  have HB2 : Hid (Below w.heap.size w w2) := HB1.out.trans (hb.mono HB1.out.size)
  clear hb HR1 HB1 HD2'
  go_wp2
  go_quiet (fail)
  go_wp2
  have hne2 : Nonempty (Kin.Of w2) := Kin.one w2
  have HK : Hid (∀ p : Kin.Of w2, Calls Try.prog 35 #[.string H] p.w fun e w' => e = .returned (.string T) ∧ ∃ q : Kin.Of w2, w' = q.w) := show ∀ p, _ from fun p => Kin.made (HSU.out p.w)
  by_cases hsm : smB s = true
  case neg =>
    have HF : Hid (∀ w', Below w.heap.size w w' → GrP w s (.returned (.tuple #[.agg zgr, .string ⟨#[]⟩, .int .i64 6])) w') := show ∀ w', _ → _ from fun w' hb => GrP.no (HE6.out hsm) (by decide) hb
    have hTn : (T.toList == T4.toList) = false := ne_lists fun e => hsm (HSI.out.2 e)
    clear hsm HSI HAG HE6 HE5 HSU
    refine Kin.region (w0 := w2) (below_drewN (Below.refl _ _) _) (by kernel_rfl) (by kernel_rfl) ?_
    repeat (go_big_quiet_step ((go_at_call 35; exact HK.out _)))
    refine wpQuiet_nil ?_
    intro _ hw'
    obtain ⟨⟨wq, hbq⟩, hw''⟩ := hw'
    subst hw''
    have HR : Hid (Row _ w.heap.size 30 zgr) := HR2.out.kept (Fr.of_below (fp := []) hbq) (by simp)
    have HB : Hid (Below w.heap.size w _) := HB2.out.trans (hbq.mono HB2.out.size)
    clear hbq HR2 HB2 HK HCG HWR
    go_wp2_with (refine wpList_store_row rfl 30 _ _ rfl w.heap.size zgr rfl rfl 30 zgr HR.out (by kernel_rfl) (by rfl) zgr_one ?_)
    (try simp only [Exit.inBlock, Exit.then])
    refine bodyPost_ret (v := .tuple #[.agg zgr, .string ⟨#[]⟩, .int .i64 6]) (results_row_tmp2 (p := 2) (u := 3) (v := 4) rfl _ _ w.heap.size zgr rfl (load_gr _ _ _ (setRow_heap _ _ _ _ _ _ HR.out) rfl)) rfl (HF.out _ (below_setRow HB.out (Nat.le_refl _) _))
  have hTe := HSI.out.1 hsm
  subst hTe
  obtain ⟨HA1, HA2⟩ := HAG.out hsm
  have HA1' := show Hid (_) from HA1
  have HA2' := show Hid (_) from HA2
  have HE := show Hid (_) from HE5.out hsm
  clear hsm HSI HAG HE6 HE5 HSU HA1 HA2
  refine Kin.region (w0 := w2) (below_drewN (Below.refl _ _) _) (by kernel_rfl) (by kernel_rfl) ?_
  repeat (go_big_quiet_step ((go_at_call 35; exact HK.out _)))
  refine wpQuiet_nil ?_
  intro _ hw'
  obtain ⟨⟨wq, hbq⟩, hw''⟩ := hw'
  subst hw''
  have HR3 : Hid (Row _ w.heap.size 30 zgr) := HR2.out.kept (Fr.of_below (fp := []) hbq) (by simp)
  have HB3 : Hid (Below w.heap.size w _) := HB2.out.trans (hbq.mono HB2.out.size)
  clear hbq HR2 HB2 HK
  go_wp2_with fail
  refine Calls.mono (HCG.out _) ?_
  rintro e w3 ⟨ga, gc, rfl, hg, ho, hb⟩
  have HG3 : Hid (IsG w3 ga L.length L) := hg
  have HR4 : Hid (Row (w3.alloc (.cells #[.int .i64 Q, .slice ga L.length gc] 30)) w.heap.size 30 zgr) := (HR3.out.kept (Fr.of_below (fp := []) hb) (by simp)).alloc _
  have hB3 : Below w.heap.size w w3 := HB3.out.trans (hb.mono HB3.out.size)
  have HB4 : Hid (Below w.heap.size w (w3.alloc (.cells #[.int .i64 Q, .slice ga L.length gc] 30))) := hB3.alloc hB3.size _
  have HG4 : Hid (IsG (w3.alloc (.cells #[.int .i64 Q, .slice ga L.length gc] 30)) ga L.length L) := hg.below ((Below.refl _ _).alloc (Nat.le_refl _) _)
  have HO4 : Hid (Own3 (w3.alloc (.cells #[.int .i64 Q, .slice ga L.length gc] 30)) w.heap.size ga) := show Own3 _ _ _ from (ho.below ((Below.refl _ _).alloc (Nat.le_refl _) _)).ge HB3.out.size
  have HX4 : Hid (Row (w3.alloc (.cells #[.int .i64 Q, .slice ga L.length gc] 30)) w3.heap.size 30 #[.int .i64 Q, .slice ga L.length gc]) := Row.new _ _ _
  have HW4 := show Hid (∀ W, _ → _) from fun W (h : IsG W ga L.length L) => HWR.out W ga L.length gc h
  clear hg ho hb hB3 HR3 HB3 HCG HWR HG3
  go_wp2_with fail
  refine Calls.mono (HW4.out _ HG4.out) ?_
  rintro e w5 ⟨rfl, hb⟩
  have HR : Hid (Row w5 w.heap.size 30 zgr) := HR4.out.kept (Fr.of_below (fp := []) hb) (by simp)
  have HB : Hid (Below w.heap.size w w5) := HB4.out.trans (hb.mono HB4.out.size)
  have HX : Hid (Row w5 w3.heap.size 30 #[.int .i64 Q, .slice ga L.length gc]) := HX4.out.kept (Fr.of_below (fp := []) hb) (by simp)
  have HG : Hid (IsG w5 ga L.length L) := HG4.out.below hb
  have HO : Hid (Own3 w5 w.heap.size ga) := HO4.out.below hb
  clear hb HR4 HB4 HX4 HG4 HW4 HO4
  by_cases g1 : GE = 0
  case neg =>
    have HF : Hid (∀ w', Below w.heap.size w w' → GrP w s (.returned (.tuple #[.agg zgr, .string ⟨#[]⟩, .int .i64 5])) w') := show ∀ w', _ → _ from fun w' hb => GrP.no (HE.out fun c => g1 (HA1'.out.2 c).1) (by decide) hb
    have hgn : (GE != 0) = true := by rw [bne_iff_ne]; exact g1
    clear g1
    go_wp2_with (refine wpList_store_row rfl 30 _ _ rfl w.heap.size zgr rfl rfl 30 zgr HR.out (by kernel_rfl) (by rfl) zgr_one ?_)
    (try simp only [Exit.inBlock, Exit.then])
    refine bodyPost_ret (v := .tuple #[.agg zgr, .string ⟨#[]⟩, .int .i64 5]) (results_row_tmp2 (p := 2) (u := 3) (v := 4) rfl _ _ w.heap.size zgr rfl (load_gr _ _ _ (setRow_heap _ _ _ _ _ _ HR.out) rfl)) rfl (HF.out _ (below_setRow HB.out (Nat.le_refl _) _))
  by_cases g2 : G = WH
  case neg =>
    have HF : Hid (∀ w', Below w.heap.size w w' → GrP w s (.returned (.tuple #[.agg zgr, .string ⟨#[]⟩, .int .i64 5])) w') := show ∀ w', _ → _ from fun w' hb => GrP.no (HE.out fun c => g2 (HA1'.out.2 c).2) (by decide) hb
    have hgn : (G.toList == WH.toList) = false := ne_lists g2
    subst g1
    clear g2
    go_wp2_with (refine wpList_store_row rfl 30 _ _ rfl w.heap.size zgr rfl rfl 30 zgr HR.out (by kernel_rfl) (by rfl) zgr_one ?_)
    (try simp only [Exit.inBlock, Exit.then])
    refine bodyPost_ret (v := .tuple #[.agg zgr, .string ⟨#[]⟩, .int .i64 5]) (results_row_tmp2 (p := 2) (u := 3) (v := 4) rfl _ _ w.heap.size zgr rfl (load_gr _ _ _ (setRow_heap _ _ _ _ _ _ HR.out) rfl)) rfl (HF.out _ (below_setRow HB.out (Nat.le_refl _) _))
  have HFI : Hid (∀ w', IsG w' ga L.length L → Own3 w' w.heap.size ga → Below w.heap.size w w' → GrP w s (.returned (.tuple #[.agg #[.int .i64 Q, .slice ga L.length gc], .string RS, .int .i64 0])) w') := show ∀ w', _ → _ → _ → _ from fun w' hg ho hb => by
    obtain ⟨k1, k2, k3, k4⟩ := HA2'.out (HA1'.out.1 ⟨g1, g2⟩)
    exact ⟨ga, L.length, gc, by rw [k3, k4, k1], by rw [k2]; exact hg, ho, hb⟩
  subst g1 g2
  have HGN : Hid (IsG (w5.setRow w.heap.size #[.int .i64 Q, .slice ga L.length gc]) ga L.length L) := show IsG _ _ _ _ from IsG.setRow HG.out (HO.out.apart HR.out (by decide)) _
  have HON : Hid (Own3 (w5.setRow w.heap.size #[.int .i64 Q, .slice ga L.length gc]) w.heap.size ga) := show Own3 _ _ _ from HO.out.setRow (HO.out.apart HR.out (by decide)) _
  clear HA1' HA2' HE
  go_wp2_with (first
    | (refine wpList_load_row rfl 30 _ rfl w3.heap.size rfl 30 #[.int .i64 Q, .slice ga L.length gc] (0, 0) _ HX.out Try.underlying30 rfl (by kernel_rfl) ?_)
    | (refine wpList_store_row rfl 30 _ _ rfl w.heap.size #[.int .i64 Q, .slice ga L.length gc] rfl rfl 30 zgr HR.out (by kernel_rfl) (by rfl) (grv_one _ _ _ _) ?_))
  (try simp only [Exit.inBlock, Exit.then])
  refine bodyPost_ret (v := .tuple #[.agg #[.int .i64 Q, .slice ga L.length gc], .string RS, .int .i64 0]) (results_row_tmp2 (p := 2) (u := 3) (v := 4) rfl _ _ w.heap.size #[.int .i64 Q, .slice ga L.length gc] rfl (load_gr _ _ _ (setRow_heap _ _ _ _ _ _ HR.out) rfl)) rfl (HFI.out _ HGN.out HON.out (below_setRow HB.out (Nat.le_refl _) _))
end Go.Proofs.Ytkjhjpaacpcnmaa

/- Groups one behind the other as plain mathematics: what Write and All answer, and what follows. -/
namespace Scm
open Crcm Txt Wirem Blkm Grpm
set_option linter.unusedVariables false

structure Gr where
  seq : Int
  l : List Ch
def gr0 : Gr := ⟨0, []⟩
/-- Does a group follow that goes on? -/
def goB (p : Option Int) (n : Int) : Bool := match p with
  | none => true
  | some q => decide (n = q + 1)
def nx (p : Option Int) (s : ByteArray) : Bool := decide (rdE s = 0) && goB p (rdN s)
def sc : Nat → Option Int → ByteArray → List Gr × ByteArray
  | 0, _, s => ([], s)
  | n + 1, p, s => if nx p s = true then (⟨rdN s, rdL s⟩ :: (sc n (some (rdN s)) (rdR s)).1, (sc n (some (rdN s)) (rdR s)).2) else ([], s)
theorem nx_err {p : Option Int} {s : ByteArray} (h : nx p s = true) : rdE s = 0 := by
  rw [nx, Bool.and_eq_true, decide_eq_true_eq] at h; exact h.1
theorem nx_no {p : Option Int} {s : ByteArray} (h : rdE s ≠ 0) : nx p s = false := by simp [nx, h]
theorem nx_none {s : ByteArray} (h : rdE s = 0) : nx none s = true := by simp [nx, goB, h]
theorem nx_some {q : Int} {s : ByteArray} (h : rdE s = 0) : nx (some q) s = decide (rdN s = q + 1) := by simp [nx, goB, h]
theorem rd_less' {s : ByteArray} (h : rdE s = 0) : (rdR s).size + 13 ≤ s.size := by have := rd_len h; omega
theorem nx_nil {p : Option Int} {s : ByteArray} (h : s.size = 0) : nx p s = false := nx_no (by rw [rd_nil h]; decide)
theorem sc_fuel (n : Nat) : ∀ (m : Nat) (p : Option Int) (s : ByteArray), s.size ≤ n → s.size ≤ m → sc n p s = sc m p s := by
  induction n with
  | zero =>
    intro m p s h _
    cases m with
    | zero => rfl
    | succ m => rw [sc, sc, if_neg (by rw [nx_nil (by omega)]; decide)]
  | succ n ih =>
    intro m p s h1 h2
    by_cases hk : nx p s = true
    · have hl := rd_less' (nx_err hk)
      match m, h2 with
      | 0, h2 => omega
      | m + 1, h2 => rw [sc, sc, if_pos hk, if_pos hk, ih m _ (rdR s) (by omega) (by omega)]
    · cases m with
      | zero => rw [sc, sc, if_neg hk]
      | succ m => rw [sc, sc, if_neg hk, if_neg hk]
def scA (p : Option Int) (s : ByteArray) : List Gr × ByteArray := sc s.size p s
theorem sc_step {p : Option Int} {s : ByteArray} (h : nx p s = true) : scA p s = (⟨rdN s, rdL s⟩ :: (scA (some (rdN s)) (rdR s)).1, (scA (some (rdN s)) (rdR s)).2) := by
  have hl := rd_less' (nx_err h)
  rw [scA, show s.size = (s.size - 1) + 1 by omega, sc, if_pos h, scA, sc_fuel (s.size - 1) (rdR s).size _ (rdR s) (by omega) (Nat.le_refl _)]
theorem sc_stop {p : Option Int} {s : ByteArray} (h : ¬ nx p s = true) : scA p s = ([], s) := by
  rw [scA]
  cases s.size with
  | zero => rfl
  | succ n => rw [sc, if_neg h]

/-- Many groups' bytes. -/
def wrE : Int → List (List Ch) → Int
  | _, [] => 0
  | q, l :: t => if grE q l = 0 then wrE (q + 1) t else grE q l
def wrB : Int → List (List Ch) → ByteArray
  | _, [] => nul
  | q, l :: t => grS q l ++ wrB (q + 1) t
def wrS (q : Int) (ls : List (List Ch)) : ByteArray := if wrE q ls = 0 then wrB q ls else nul
def grs : Int → List (List Ch) → List Gr
  | _, [] => []
  | q, l :: t => ⟨q, l⟩ :: grs (q + 1) t
theorem grs_len : ∀ (ls : List (List Ch)) (q : Int), (grs q ls).length = ls.length
  | [], _ => rfl
  | l :: t, q => by rw [grs, List.length_cons, List.length_cons, grs_len t]
theorem grs_append : ∀ (a b : List (List Ch)) (q : Int), grs q (a ++ b) = grs q a ++ grs (q + a.length) b
  | [], b, q => by simp [grs]
  | l :: t, b, q => by
    have e : q + 1 + (t.length : Int) = q + ((t.length + 1 : Nat) : Int) := by push_cast; omega
    rw [List.cons_append, grs, grs, List.cons_append, grs_append t b, List.length_cons, e]
theorem grs_get : ∀ (ls : List (List Ch)) (q : Int) (i : Nat), i < ls.length → (grs q ls).getD i gr0 = ⟨q + i, ls.getD i []⟩
  | l :: t, q, 0, _ => by simp [grs]
  | l :: t, q, i + 1, h => by
    rw [List.length_cons] at h
    rw [grs, List.getD_cons_succ, List.getD_cons_succ, grs_get t (q + 1) i (by omega)]
    congr 1; push_cast; omega
theorem wrE_append : ∀ (a b : List (List Ch)) (q : Int), wrE q a = 0 → wrE q (a ++ b) = wrE (q + a.length) b
  | [], b, q, _ => by simp
  | l :: t, b, q, h => by
    rw [wrE] at h
    split at h
    · rename_i hg
      have e : q + 1 + (t.length : Int) = q + ((t.length + 1 : Nat) : Int) := by push_cast; omega
      rw [List.cons_append, wrE, if_pos hg, wrE_append t b (q + 1) h, List.length_cons, e]
    · rename_i hg; exact absurd h hg
theorem wrE_append_bad : ∀ (a b : List (List Ch)) (q : Int), wrE q a ≠ 0 → wrE q (a ++ b) = wrE q a
  | [], b, q, h => absurd rfl h
  | l :: t, b, q, h => by
    rw [List.cons_append, wrE, wrE]
    rw [wrE] at h
    split
    · rename_i hg; rw [if_pos hg] at h; exact wrE_append_bad t b (q + 1) h
    · rfl
theorem wrB_append : ∀ (a b : List (List Ch)) (q : Int), wrB q (a ++ b) = wrB q a ++ wrB (q + a.length) b
  | [], b, q => by simp [wrB, nul_left]
  | l :: t, b, q => by
    have e : q + 1 + (t.length : Int) = q + ((t.length + 1 : Nat) : Int) := by push_cast; omega
    rw [List.cons_append, wrB, wrB, wrB_append t b, ByteArray.append_assoc, List.length_cons, e]
theorem wr_each {q : Int} {l : List Ch} {t : List (List Ch)} (h : wrE q (l :: t) = 0) : grE q l = 0 ∧ wrE (q + 1) t = 0 := by
  rw [wrE] at h
  split at h
  · rename_i hg; exact ⟨hg, h⟩
  · rename_i hg; exact absurd h hg
theorem wrB_le : ∀ (ls : List (List Ch)) (q : Int), (wrB q ls).size ≤ 82253 * ls.length
  | [], _ => Nat.zero_le _
  | l :: t, q => by
    have := wrB_le t (q + 1)
    have := grS_le q l
    rw [wrB, ByteArray.size_append, List.length_cons]
    omega
/-- Ahead of a log's group with number q. -/
def Ahead (p : Option Int) (q : Int) : Prop := p = none ∨ p = some (q - 1)
def beh (p : Option Int) (q : Int) (n : Nat) : Option Int := if n = 0 then p else some (q + n - 1)
theorem nx_wr {p : Option Int} {q : Int} {l : List Ch} (h : grE q l = 0) (hp : Ahead p q) (t : ByteArray) : nx p (grS q l ++ t) = true := by
  obtain ⟨h1, h2, _⟩ := gr_rd h t
  rcases hp with rfl | rfl
  · exact nx_none h1
  · rw [nx_some h1, h2]; simp
theorem wr_sc : ∀ (ls : List (List Ch)) (q : Int) (p : Option Int) (t : ByteArray), wrE q ls = 0 → Ahead p q →
    scA p (wrB q ls ++ t) = (grs q ls ++ (scA (beh p q ls.length) t).1, (scA (beh p q ls.length) t).2)
  | [], q, p, t, _, _ => by
    rw [wrB, nul_left]; rfl
  | l :: r, q, p, t, h, hp => by
    obtain ⟨h1, h2⟩ := wr_each h
    obtain ⟨e1, e2, e3, e4⟩ := gr_rd h1 (wrB (q + 1) r ++ t)
    have ih := wr_sc r (q + 1) (some q) t h2 (.inr (congrArg some (by omega)))
    have hb : beh (some q) (q + 1) r.length = beh p q (l :: r).length := by
      rw [beh, beh, List.length_cons, if_neg (show ¬ r.length + 1 = 0 by omega)]
      by_cases h0 : r.length = 0
      · rw [if_pos h0, h0]; exact congrArg some (by push_cast; omega)
      · rw [if_neg h0]; exact congrArg some (by push_cast; omega)
    rw [wrB, ByteArray.append_assoc, sc_step (nx_wr h1 hp _), e2, e3, e4, ih, hb]
    rfl
/-- What is scanned is the bytes of its groups. -/
theorem sc_wr (n : Nat) : ∀ (p : Option Int) (s : ByteArray), s.size ≤ n →
    ∃ q ls, (scA p s).1 = grs q ls ∧ wrE q ls = 0 ∧ wrB q ls ++ (scA p s).2 = s ∧ (ls ≠ [] → Ahead p q) ∧ nx (beh p q ls.length) (scA p s).2 = false := by
  induction n with
  | zero =>
    intro p s h
    have hn : ¬ nx p s = true := by rw [nx_nil (by omega)]; decide
    rw [sc_stop hn]
    exact ⟨0, [], rfl, rfl, nul_left s, fun h => absurd rfl h, by rw [beh]; simpa using hn⟩
  | succ n ih =>
    intro p s h
    by_cases hk : nx p s = true
    · have hl := rd_less' (nx_err hk)
      obtain ⟨g1, g2⟩ := rd_gr (nx_err hk)
      obtain ⟨q, ls, e1, e2, e3, e4, e5⟩ := ih (some (rdN s)) (rdR s) (by omega)
      rw [sc_step hk]
      have hp : Ahead p (rdN s) := by
        cases p with
        | none => exact .inl rfl
        | some k =>
          rw [nx_some (nx_err hk), decide_eq_true_eq] at hk
          exact .inr (congrArg some (by omega))
      by_cases h0 : ls = []
      · subst h0
        rw [wrB, nul_left] at e3
        refine ⟨rdN s, [rdL s], by rw [e1]; rfl, by rw [wrE, if_pos g1]; rfl, ?_, fun _ => hp, ?_⟩
        · rw [wrB, wrB, nul_right, e3, g2]
        · rw [show beh p (rdN s) [rdL s].length = some (rdN s) by rw [beh, if_neg (by simp)]; exact congrArg some (by simp)]
          exact e5
      · have hq : q = rdN s + 1 := by
          rcases e4 h0 with e | e
          · cases e
          · injection e with e; omega
        subst hq
        refine ⟨rdN s, rdL s :: ls, by rw [e1]; rfl, by rw [wrE, if_pos g1]; exact e2, ?_, fun _ => hp, ?_⟩
        · rw [wrB, ByteArray.append_assoc, e3, g2]
        · have : beh p (rdN s) (rdL s :: ls).length = beh (some (rdN s)) (rdN s + 1) ls.length := by
            rw [beh, beh, List.length_cons, if_neg (show ¬ ls.length + 1 = 0 by omega), if_neg (show ¬ ls.length = 0 from fun e => h0 (List.eq_nil_of_length_eq_zero e))]
            exact congrArg some (by push_cast; omega)
          rw [this]; exact e5
    · rw [sc_stop hk]
      exact ⟨0, [], rfl, rfl, nul_left s, fun h => absurd rfl h, by rw [beh]; simpa using hk⟩
theorem sc_le (p : Option Int) (s : ByteArray) : (scA p s).2.size ≤ s.size := by
  obtain ⟨q, ls, _, _, h, _⟩ := sc_wr _ p s (Nat.le_refl _)
  have := congrArg ByteArray.size h
  rw [ByteArray.size_append] at this
  omega
/-- How many groups are whole in the first n bytes of a log. -/
def whl : Int → List (List Ch) → Nat → Nat
  | _, [], _ => 0
  | q, l :: t, n => if (grS q l).size ≤ n then whl (q + 1) t (n - (grS q l).size) + 1 else 0
theorem whl_le : ∀ (ls : List (List Ch)) (q : Int) (n : Nat), whl q ls n ≤ ls.length
  | [], _, _ => Nat.le_refl _
  | l :: t, q, n => by
    rw [whl, List.length_cons]
    split
    · have := whl_le t (q + 1) (n - (grS q l).size); omega
    · omega
theorem cut_sc : ∀ (ls : List (List Ch)) (q : Int) (p : Option Int) (n : Nat), wrE q ls = 0 → Ahead p q → n ≤ (wrB q ls).size →
    (scA p ((wrB q ls).extract 0 n)).1 = grs q (ls.take (whl q ls n)) ∧ (scA p ((wrB q ls).extract 0 n)).2.size + (wrB q (ls.take (whl q ls n))).size = n
  | [], q, p, n, _, _, hn => by
    have h0 : n = 0 := by have : (wrB q []).size = 0 := rfl; omega
    subst h0
    have hz : ((wrB q []).extract 0 0).size = 0 := by rw [ByteArray.size_extract]; omega
    rw [sc_stop (by rw [nx_nil hz]; decide)]
    exact ⟨rfl, by rw [hz]; rfl⟩
  | l :: t, q, p, n, h, hp, hn => by
    obtain ⟨h1, h2⟩ := wr_each h
    by_cases hk : (grS q l).size ≤ n
    · have he : (wrB q (l :: t)).extract 0 n = grS q l ++ (wrB (q + 1) t).extract 0 (n - (grS q l).size) := by
        refine bys_inj ?_
        rw [wrB, bys_to, bys_append, bys_append, bys_to, List.take_append, bys_length, List.take_of_length_le (by rw [bys_length]; exact hk)]
      rw [wrB, ByteArray.size_append] at hn
      obtain ⟨e1, e2, e3, e4⟩ := gr_rd h1 ((wrB (q + 1) t).extract 0 (n - (grS q l).size))
      obtain ⟨i1, i2⟩ := cut_sc t (q + 1) (some q) (n - (grS q l).size) h2 (.inr (congrArg some (by omega))) (by omega)
      rw [he, sc_step (nx_wr h1 hp _), e2, e3, e4, whl, if_pos hk, List.take_succ_cons]
      refine ⟨by rw [i1]; rfl, ?_⟩
      rw [wrB, ByteArray.size_append]
      dsimp only
      omega
    · have he : (wrB q (l :: t)).extract 0 n = (grS q l).extract 0 n := by
        refine bys_inj ?_
        rw [wrB, bys_to, bys_append, bys_to, List.take_append_of_le_length (by rw [bys_length]; omega)]
      rw [he, sc_stop (by rw [nx_no (by rw [gr_cut h1 (by omega)]; decide)]; decide), whl, if_neg hk]
      refine ⟨rfl, ?_⟩
      rw [List.take_zero, wrB, ByteArray.size_extract]
      have : nul.size = 0 := rfl
      omega
end Scm

/- The statement 'range over a function', where caller and iterator share one invariant: the iterator tells the round what it knows of what it hands on. -/
namespace Rgf
open Go Go.RowKit
set_option linter.unusedVariables false
variable {F : Fence} {n : Nat} {P : Program}

/-- How a round may be left: off its end, or by an exit. -/
def Left {α : Type} (B : Nat) (J : List α → World → Prop) (Jx : Code → World → Prop) (xs : List α) (W : World) : Exit → Act → World → Prop
  | .normal, _, W' => KeepsFrom B W W' ∧ J xs W'
  | .exit id, _, W' => KeepsFrom B W W' ∧ Jx (.exit id) W'
  | .ret, _, _ => False
  | .goto _, _, _ => False
  | .panic _, _, _ => False
  | .outgrown, _, _ => False
/-- What holds of a world does so behind a turn of a block that is no cells. -/
def Bides (B : Nat) (I : World → Prop) : Prop := ∀ W l o o', B ≤ l → W.heap[l]? = some o → o.isCells = false → I W → I (W.putObj l o')
theorem keeps_put {B l : Nat} {W : World} {o o' : Obj} (hl : l < B) : KeepsFrom B W (W.putObj l o') := ⟨by simp, fun k x hB hk _ => (World.putObj_heap_other (by omega)).trans hk⟩

theorem range_law {α β : Type} {g : Operand} {ps : Array Tmp} {assign body : Code} {Q : Exit → Act → World → Prop} {a : Act} {w : World}
    (hro : F.round = none) (h1 : 1 ≤ n) {gf : Nat} {lb : Array Value} (hg : a.eval g = .func (.func gf) #[] lb) (hFg : F.fn gf) (eg : ∀ args w, (callFunc gf args).run P w = .ok (.enter gf args) w)
    {encs : α → Array Value} (hps : ∀ x, (encs x).size = ps.size)
    (J : β → List α → World → Prop) (G : β → List α → α → World → Prop) (S : β → List α → Prop) (Jx : Code → World → Prop) (Ax : β → List α → α → Act → World → Prop)
    (hJ : ∀ b pre, Bides w.heap.size (J b pre)) (hJx : ∀ c, Bides w.heap.size (Jx c)) (hAx : ∀ b pre x a', Bides w.heap.size (Ax b pre x a'))
    (hit : ∀ (Bk X : World → Prop), (∀ W W', Bk W → KeepsFrom w.heap.size W W' → Bk W') →
      (∀ b pre x W, J b pre W → G b pre x W → Bk W → YieldAt F (n - 1 - 1) P (w.heap.size + 1) (encs x) W fun e W' => (e = .returned (.bool true) ∧ J b (pre ++ [x]) W' ∧ Bk W') ∨ (e = .returned (.bool false) ∧ X W')) →
      ∀ o, o.isCells = false → Bk ((w.alloc (.deferred (some []))).alloc o) →
        CallsIn F (n - 1) P gf (#[.func (.yield (w.heap.size + 1)) #[] #[]] ++ lb) ((w.alloc (.deferred (some []))).alloc o) fun e W' => (∃ v, e = .returned v) ∧ ((∃ b ys, S b ys ∧ J b ys W' ∧ Bk W') ∨ X W'))
    (hassign : ∀ (l : Nat) b pre x W (K : Act → World → Prop), J b pre W → G b pre x W → (∀ a' W', KeepsFrom w.heap.size W W' → Ax b pre x a' W' → K a' W') →
      assign.wpIn (F.inRound l) (n - 1 - 1) P (Exit.then K (fun _ _ _ => False)) { tmps := (ps.zip (encs x)).foldl (fun t (p, v) => t.setIfInBounds p v) a.tmps, defers := [] } W)
    (hbody : ∀ (l : Nat) b pre x a' W, Ax b pre x a' W → body.wpIn (F.inRound l) (n - 1 - 1) P (Left w.heap.size (J b) Jx (pre ++ [x]) W) a' W)
    (hdone : ∀ (D : Nat) b ys W, w.heap.size ≤ D → S b ys → J b ys W → W.heap[D]? = some (.deferred (some [])) → Q .normal { a with defers := { target := .collected D, args := #[] } :: a.defers } W)
    (hstop : ∀ (D : Nat) (c : Code) W, w.heap.size ≤ D → Jx c W → W.heap[D]? = some (.deferred (some [])) → c.wpIn F n P Q { a with defers := { target := .collected D, args := #[] } :: a.defers } W) :
    (Code.rangeFunc g ps assign body).wpIn F n P Q a w := by
  refine wpIn_rangeFunc fun fn hfn => ?_
  rw [hro]
  obtain ⟨R, hR⟩ : ∃ R : LoopState → Option Code → Loop, R = fun st pe => { state := st, pending := pe, fn, tmps := a.tmps, params := ps, assign, body, defers := w.heap.size } := ⟨_, rfl⟩
  refine ⟨w.heap.size + 1, [{ target := .collected w.heap.size, args := #[] }], (w.alloc (.deferred (some []))).alloc (.loop (R .ready none)), { target := .fn (.func gf) lb, args := #[.func (.yield (w.heap.size + 1)) #[] #[]] }, (w.alloc (.deferred (some []))).alloc (.loop (R .ready none)), gf,
    #[.func (.yield (w.heap.size + 1)) #[] #[]] ++ lb, (w.alloc (.deferred (some []))).alloc (.loop (R .ready none)), ?_, ?_, ?_, ?_, fun _ => h1, ?_⟩
  · rw [hR]; exact run_enterLoop_outer _ _ _ _ _
  · simp only [resolve, hg]
    simp [go_sem]
  · intro f' hf'
    simp [Target.leads] at hf'
    subst hf'; exact hFg
  · simp [invoke, go_sem, eg]
  have l0 : ((w.alloc (.deferred (some []))).alloc (.loop (R .ready none))).heap[w.heap.size + 1]? = some (.loop (R .ready none)) := by
    have := World.alloc_heap_new (w.alloc (.deferred (some []))) (.loop (R .ready none))
    rwa [World.size_alloc] at this
  have k0 : ((w.alloc (.deferred (some []))).alloc (.loop (R .ready none))).heap[w.heap.size]? = some (.deferred (some [])) := (Below.heap_alloc _ _ _ (by simp)).trans (World.alloc_heap_new w _)
  refine CallsIn.mono (hit (fun W => W.heap[w.heap.size + 1]? = some (.loop (R .ready none)) ∧ W.heap[w.heap.size]? = some (.deferred (some [])))
    (fun W => ∃ c, Jx c W ∧ W.heap[w.heap.size + 1]? = some (.loop (R .done (some c))) ∧ W.heap[w.heap.size]? = some (.deferred (some [])))
    (fun W W' h k => ⟨k.same _ _ (by omega) h.1 rfl, k.same _ _ (Nat.le_refl _) h.2 rfl⟩) ?_ _ rfl ⟨l0, k0⟩) ?_
  · rintro b pre x W hj hG ⟨hl, hk⟩
    have hy := run_yield (P := P) (args := encs x) hl (by rw [hR]; exact hps x)
    rw [hR] at hy
    refine ⟨fn, _, assign, body, hy, roundIn_of_wpIn hfn (hassign _ b pre x W _ hj hG ?_)⟩
    intro a' Wa hkf hax
    have hl1 := hkf.same _ _ (by omega) hl rfl
    have hk1 := hkf.same _ _ (Nat.le_refl _) hk rfl
    have hlt : w.heap.size + 1 < Wa.heap.size := (Array.getElem?_eq_some_iff.1 hl1).1
    refine ⟨_, run_beginRound hl1 (by rw [hR]), ?_⟩
    have hl2 : (Wa.putObj (w.heap.size + 1) (.loop { R .ready none with state := .busy })).heap[w.heap.size + 1]? = some (.loop { R .ready none with state := .busy }) := World.putObj_heap_same hlt
    have hk2 : (Wa.putObj (w.heap.size + 1) (.loop { R .ready none with state := .busy })).heap[w.heap.size]? = some (.deferred (some [])) := (World.putObj_heap_other (by omega)).trans hk1
    refine wpIn_mono (hbody _ b pre x a' _ (hAx b pre x a' _ _ _ _ (by omega) hl1 rfl hax)) ?_
    have fin : ∀ (jump : Option Code) (W3 : World), KeepsFrom w.heap.size (Wa.putObj (w.heap.size + 1) (.loop { R .ready none with state := .busy })) W3 →
        ∃ W4, (Instr.endRound (w.heap.size + 1) jump).run P W3 = .ok (.bool jump.isNone) W4 ∧ W4.heap[w.heap.size + 1]? = some (.loop (R (if jump.isNone then .ready else .done) jump)) ∧ W4.heap[w.heap.size]? = some (.deferred (some [])) ∧ ∀ I, Bides w.heap.size I → I W3 → I W4 := fun jump W3 hk3 => by
      have hl3 := hk3.same _ _ (by omega) hl2 rfl
      have hr := run_endRound (P := P) jump hl3
      refine ⟨_, hr, ?_, (World.putObj_heap_other (by omega)).trans (hk3.same _ _ (Nat.le_refl _) hk2 rfl), fun I hI h => hI _ _ _ _ (by omega) hl3 rfl h⟩
      rw [World.putObj_heap_same (Array.getElem?_eq_some_iff.1 hl3).1, hR]
    rintro e a3 W3 hp
    cases e with
    | normal =>
      obtain ⟨W4, hr, h4, h5, h6⟩ := fin none W3 hp.1
      exact ⟨_, _, hr, .inl ⟨rfl, h6 _ (hJ b _) hp.2, h4, h5⟩⟩
    | exit id =>
      obtain ⟨W4, hr, h4, h5, h6⟩ := fin (some (.exit id)) W3 hp.1
      exact ⟨_, _, hr, .inr ⟨rfl, .exit id, h6 _ (hJx _) hp.2, h4, h5⟩⟩
    | ret => exact hp.elim
    | goto t => exact hp.elim
    | panic ch => exact hp.elim
    | outgrown => exact hp.elim
  · rintro e W2 ⟨⟨v, rfl⟩, (⟨b, ys, hS, hj, hl, hk⟩ | ⟨c, hc, hl, hk⟩)⟩
    · have hr := run_endLoop (P := P) hl (by rw [hR]; simp)
      rw [hR] at hr
      exact ⟨none, _, hr, hdone _ b ys _ (Nat.le_refl _) hS (hJ b ys _ _ _ _ (by omega) hl rfl hj) ((World.putObj_heap_other (by omega)).trans hk)⟩
    · have hr := run_endLoop (P := P) hl (by rw [hR]; simp)
      rw [hR] at hr
      exact ⟨some c, _, hr, hstop _ c _ (Nat.le_refl _) (hJx c _ _ _ _ (by omega) hl rfl hc) ((World.putObj_heap_other (by omega)).trans hk)⟩

/-- No operation of a region puts a call off. -/
def plainOps (ops : Array Oper) : Bool := ops.all fun o => match o.op with
  | .defer _ => false
  | _ => true
theorem plain_spec {ops : Array Oper} (h : plainOps ops = true) {i : Nat} {o : Oper} (ho : ops[i]? = some o) : ∀ c, o.op ≠ .defer c := fun c e => by
  obtain ⟨hi, hg⟩ := Array.getElem?_eq_some_iff.1 ho
  have := (Array.all_eq_true.1 h) i hi
  rw [hg, e] at this
  cases this
/-- A quiet operation in a round is run as anywhere. -/
theorem quiet_oper {o : Oper} {C : World → Prop} {a : Act} {K : Act → Prop} {K' : Act → World → Prop} {Q' : Exit → Act → World → Prop} {w : World} (hp : ∀ c, o.op ≠ .defer c) (hw : C w) (h : ∀ a w', C w' → K a → K' a w')
    (ha : o.askedIn F P a C) (hh : o.quietIn F n P a C K) : o.wpIn F n P a w K' Q' := by
  obtain ⟨v, h1, h2⟩ := hh
  have h3 : Oper.quietUponIn F n P C w v ((execOp a.eval o).run P w) := h1 w hw
  refine ⟨ha w hw, ?_⟩
  rw [Oper.semAt_eq _ _ _ hp]
  cases hr : (execOp a.eval o).run P w with
  | halt x w' => rw [hr] at h3; exact h3.elim
  | ok x w' =>
    rw [hr] at h3
    cases x with
    | value u =>
      obtain ⟨rfl, rfl⟩ := h3
      exact h _ _ hw h2
    | skip =>
      obtain ⟨rfl, rfl⟩ := h3
      exact h _ _ hw h2
    | enter f args =>
      obtain ⟨rfl, hd, hc⟩ := h3
      refine ⟨hd, hc.mono fun e w'' ⟨he, hw''⟩ => ?_⟩
      subst he
      exact h _ _ hw'' h2
    | _ => exact h3.elim
theorem quiet_any {ops : Array Oper} {md : Region.Mode} {C : World → Prop} {Q : Act → Prop} {Q' : Exit → Act → World → Prop} (hp : plainOps ops = true) (hQ : ∀ a w, C w → Q a → Q' .normal a w) :
    ∀ (k : Nat) (listed : Array Bool) (a : Act) (w : World), C w → wpAnyQIn F n P md ops C Q k listed a → wpAnyIn F n P md ops Q' k listed a w := by
  intro k
  induction k with
  | zero => exact fun listed a w hw h => ⟨h.1, hQ _ _ hw h.2⟩
  | succ k ih =>
    refine fun listed a w hw h => ⟨fun h0 => hQ _ _ hw (h.1 h0), fun i hi => ?_⟩
    have hq := h.2 i hi
    unfold qOpIn at hq
    unfold wpOpIn
    cases ho : ops[i]? with
    | none =>
      rw [ho] at hq
      exact ih _ _ _ hw hq
    | some o =>
      rw [ho] at hq
      dsimp only at hq ⊢
      obtain ⟨h1, h2⟩ := hq
      split
      · rename_i hw'
        rw [if_pos hw'] at h2
        exact quiet_oper (plain_spec hp ho) hw (fun a' w' hc hk => ih _ a' w' hc hk) h1 h2
      · rename_i hw'
        rw [if_neg hw'] at h2
        exact ⟨h1 w hw, ih _ _ _ hw h2⟩
/-- A region that draws its order and only reads, in a round. -/
theorem region_round {id : Nat} {Q : Exit → Act → World → Prop} {a : Act} {w : World} {l : List Oper} (hp : plainOps l.toArray = true) (hm : P.follows .mixedOrders = true) (hB : Region.lexB .any l.toArray = true)
    (h : wpQuietIn F n P l.toArray (fun w' => ∃ n, w' = w.drewN n) (fun a' => ∀ w', (∃ n, w' = w.drewN n) → Q .normal a' w') l a) : (Code.region id l.toArray true).wpIn F n P Q a w := by
  simp only [Region.lexB, Bool.and_eq_true] at hB
  refine wpIn_region_any hm (quiet_any (Q := fun a' => ∀ w', (∃ n, w' = w.drewN n) → Q .normal a' w') hp (fun _ w' hw' h => h w' hw') _ _ _ _ ⟨1, rfl⟩ ?_)
  have := wpAnyQIn_lex (F := F) (n := n) (C := fun w' => ∃ n, w' = w.drewN n) (md := .any) hB.1 l 0 (Array.replicate l.toArray.size false) a (by simp) (by simpa using hB.2) h
  simpa using this
end Rgf

/- Lists of groups, cell by cell; what holds of the memory between two rounds of All. -/
namespace Go.Proofs.Ytkjhjpaacpcnmaa
open Go.RowKit Go.Shelf Vecm Opened Wirem Txt Frm Blkm Grpm Scm Rgf
open Crcm (bys)
set_option linter.unusedVariables false

set_option maxRecDepth 100000 in
theorem yinfo : (Try.prog.info? 30).map (fun i => (i.zero, i.size, i.bytes)) = some (some (.agg #[.int .i64 0, .slice none 0 0]), 2, 32) := by kernel_rfl
/-- A group in memory, and what stands behind it. -/
structure Yi where
  q : Int
  a : Option Addr
  n : Nat
  c : Nat
  l : List Ch
  r : ByteArray
def yi0 : Yi := ⟨0, none, 0, 0, [], ⟨#[]⟩⟩
def ycs (ys : List Yi) : List Value := ys.flatMap fun y => [.int .i64 y.q, .slice y.a y.n y.c]
def grY (ys : List Yi) : List Gr := ys.map fun y => ⟨y.q, y.l⟩
theorem ycs_length : ∀ ys : List Yi, (ycs ys).length = ys.length * 2
  | [] => rfl
  | y :: t => by rw [show ycs (y :: t) = [.int .i64 y.q, .slice y.a y.n y.c] ++ ycs t from rfl, List.length_append, ycs_length t]; simp; omega
theorem ycs_get : ∀ (ys : List Yi) (i : Nat), i < ys.length → (ycs ys)[i * 2]? = some (.int .i64 (ys.getD i yi0).q) ∧ (ycs ys)[i * 2 + 1]? = some (.slice (ys.getD i yi0).a (ys.getD i yi0).n (ys.getD i yi0).c)
  | [], _, h => by simp at h
  | y :: t, 0, _ => ⟨rfl, rfl⟩
  | y :: t, i + 1, h => by
    have ih := ycs_get t i (by simpa using h)
    rw [show ycs (y :: t) = .int .i64 y.q :: .slice y.a y.n y.c :: ycs t from rfl, show (i + 1) * 2 = i * 2 + 1 + 1 by omega]
    simp only [List.getElem?_cons_succ, List.getD_cons_succ]
    exact ih
theorem ycs_snoc (ys : List Yi) (y : Yi) : ycs ys ++ [.int .i64 y.q, .slice y.a y.n y.c] = ycs (ys ++ [y]) := by simp [ycs]
theorem grY_snoc (ys : List Yi) (y : Yi) : grY (ys ++ [y]) = grY ys ++ [⟨y.q, y.l⟩] := by simp [grY]
theorem grY_length (ys : List Yi) : (grY ys).length = ys.length := by simp [grY]
/-- A slice of groups. -/
def IsY (w : World) (a : Option Addr) (len : Nat) (ys : List Yi) : Prop :=
  ys.length = len ∧ len ≤ maxLen ∧ (∀ y ∈ ys, IsG w y.a y.n y.l) ∧
  (0 < len → ∃ b off, a = some ⟨b, off, none⟩ ∧ b < w.heap.size ∧ ∀ i, i < len →
    w.cell? ⟨b, off + i * 2, none⟩ = some (.int .i64 (ys.getD i yi0).q) ∧ w.cell? ⟨b, off + i * 2 + 1, none⟩ = some (.slice (ys.getD i yi0).a (ys.getD i yi0).n (ys.getD i yi0).c))
theorem IsY.below {w w' : World} {a : Option Addr} {n : Nat} {ys : List Yi} (h : IsY w a n ys) (hb : Below w.heap.size w w') : IsY w' a n ys := by
  obtain ⟨h1, h2, h3, h4⟩ := h
  refine ⟨h1, h2, fun y hy => (h3 y hy).below hb, fun h0 => ?_⟩
  obtain ⟨b, off, e, hl, hc⟩ := h4 h0
  refine ⟨b, off, e, Nat.lt_of_lt_of_le hl hb.size, fun i hi => ?_⟩
  obtain ⟨c1, c2⟩ := hc i hi
  exact ⟨(hb.cell hl).trans c1, (hb.cell hl).trans c2⟩
theorem IsY.nil (w : World) : IsY w none 0 [] := ⟨rfl, by simp [maxLen], fun y hy => (by cases hy), fun h => by omega⟩
theorem own_isY {w : World} {base : Nat} {e : TypeId} {v : Value} {ys : List Yi} (h : w.ownsRow base e 2 v ys.length (ycs ys)) (hl : ys.length ≤ maxLen) (hx : ∀ y ∈ ys, IsG w y.a y.n y.l) : ∃ a c, v = .slice a ys.length c ∧ IsY w a ys.length ys ∧ ys.length ≤ c ∧ c ≤ maxLen ∧ (a = none → c = 0) := by
  rcases h.2 with ⟨rfl, e⟩ | ⟨g, cap, cur, rfl, h1, h2, h3, h4, h5⟩
  · have hx : ys = [] := List.length_eq_zero_iff.1 e
    subst hx
    exact ⟨none, 0, rfl, IsY.nil _, Nat.le_refl _, Nat.zero_le _, fun _ => rfl⟩
  · refine ⟨_, _, rfl, ⟨rfl, hl, hx, fun h0 => ⟨g, 0, rfl, (Array.getElem?_eq_some_iff.1 h2).1, fun i hi => ?_⟩⟩, h3, h4, fun e => by cases e⟩
    have hc : ∀ j u, (ycs ys)[j]? = some u → w.cell? ⟨g, 0 + j, none⟩ = some u := fun j u hu => by
      have := h.cells (g := g) rfl j u hu
      rwa [add_plain rfl] at this
    exact ⟨hc _ _ (ycs_get ys i hi).1, hc _ _ (ycs_get ys i hi).2⟩
theorem isY_at {w : World} {a : Option Addr} {len : Nat} {ys : List Yi} (h : IsY w a len ys) (h0 : 0 < len) : ∃ b off, a = some ⟨b, off, none⟩ ∧ ∀ W, Below w.heap.size w W → ∀ i, i < len →
    W.cell? ⟨b, off + i * 2, none⟩ = some (.int .i64 (ys.getD i yi0).q) ∧ W.cell? ⟨b, off + i * 2 + 1, none⟩ = some (.slice (ys.getD i yi0).a (ys.getD i yi0).n (ys.getD i yi0).c) := by
  obtain ⟨b, off, rfl, hbl, hcell⟩ := h.2.2.2 h0
  refine ⟨b, off, rfl, fun W hW i hi => ?_⟩
  obtain ⟨hc0, hc1⟩ := hcell i hi
  exact ⟨(hW.cell hbl).trans hc0, (hW.cell hbl).trans hc1⟩
theorem yget_mem {ys : List Yi} {k : Nat} (h : k < ys.length) : ys.getD k yi0 ∈ ys := by
  rw [show ys.getD k yi0 = ys[k] by simp [List.getD, h]]; exact List.getElem_mem h
theorem ytake_snoc {ys : List Yi} {k : Nat} (h : k < ys.length) : ys.take k ++ [ys.getD k yi0] = ys.take (k + 1) := by
  rw [List.take_succ_eq_append_getElem h]; simp [List.getD, h]
theorem ycell_new (w : World) (T : TypeId) (a b : Value) : ∀ (j : Nat) (u : Value), [a, b][j]? = some u → (w.alloc (.cells #[a, b] T)).cell? ((⟨w.heap.size, 0, none⟩ : Addr).add j) = some u := by
  intro j u hj
  rw [add_plain rfl, Nat.zero_add]
  have hr := Row.new w T #[a, b]
  rcases j with _ | _ | j
  · cases hj; exact hr.cell rfl
  · cases hj; exact hr.cell rfl
  · simp at hj

/-- What stands behind the groups so far; the last one's number. -/
def bh (s : ByteArray) (ys : List Yi) : ByteArray := (ys.getLast?.map Yi.r).getD s
def lq (ys : List Yi) : Option Int := ys.getLast?.map Yi.q
theorem bh_snoc (s : ByteArray) (ys : List Yi) (y : Yi) : bh s (ys ++ [y]) = y.r := by simp [bh]
theorem lq_snoc (ys : List Yi) (y : Yi) : lq (ys ++ [y]) = some y.q := by simp [lq]
/-- The groups so far are the first ones that are scanned. -/
structure Chn (s : ByteArray) (ys : List Yi) : Prop where
  sc : scA none s = (grY ys ++ (scA (lq ys) (bh s ys)).1, (scA (lq ys) (bh s ys)).2)
  len : (bh s ys).size + 13 * ys.length ≤ s.size
theorem Chn.nil (s : ByteArray) : Chn s [] := ⟨by simp [grY, lq, bh], by simp [bh]⟩
theorem Chn.snoc {s : ByteArray} {ys : List Yi} {y : Yi} (h : Chn s ys) (hn : nx (lq ys) (bh s ys) = true) (hq : y.q = rdN (bh s ys)) (hl : y.l = rdL (bh s ys)) (hr : y.r = rdR (bh s ys)) : Chn s (ys ++ [y]) := by
  refine ⟨?_, ?_⟩
  · rw [h.sc, sc_step hn, grY_snoc, lq_snoc, bh_snoc, hq, hl, hr, List.append_assoc]; rfl
  · have := rd_less' (nx_err hn)
    have := h.len
    rw [bh_snoc, hr, List.length_append]
    simp only [List.length_singleton]
    omega
theorem Chn.stop {s : ByteArray} {ys : List Yi} (h : Chn s ys) (hn : nx (lq ys) (bh s ys) = false) : scA none s = (grY ys, bh s ys) := by
  rw [h.sc, sc_stop (by rw [hn]; decide), List.append_nil]

theorem isG_heap {w w' : World} {a : Option Addr} {n : Nat} {l : List Ch} (h : IsG w a n l) (hs : w.heap.size ≤ w'.heap.size) (hk : ∀ x, a = some x → w'.heap[x.block]? = w.heap[x.block]?) : IsG w' a n l := by
  obtain ⟨h1, h2, h3, h4⟩ := h
  refine ⟨h1, h2, h3, fun h0 => ?_⟩
  obtain ⟨b, off, e, hl, hc⟩ := h4 h0
  have hb : w'.heap[b]? = w.heap[b]? := hk _ e
  refine ⟨b, off, e, Nat.lt_of_lt_of_le hl hs, fun i hi => ?_⟩
  obtain ⟨c1, c2, c3⟩ := hc i hi
  exact ⟨(World.cell?_of_block hb).trans c1, (World.cell?_of_block hb).trans c2, (World.cell?_of_block hb).trans c3⟩
/-- Between two rounds: the list, its box, the box of what stands behind, the iterator's own box. -/
structure JV (w0 : World) (s : ByteArray) (Bg : Nat) (ys : List Yi) (v : Value) (W : World) : Prop where
  bel : Below w0.heap.size w0 W
  lst : Row W w0.heap.size 47 #[v]
  beh : Row W (w0.heap.size + 1) 9 #[.string (bh s ys)]
  own : W.ownsRow (w0.heap.size + 5) 30 2 v ys.length (ycs ys)
  its : ∃ cs, Row W Bg 30 cs ∧ cs.size = 2
  far : w0.heap.size + 5 ≤ Bg
  oth : ∀ k ∈ blk v, k ≠ Bg
  grp : ∀ y ∈ ys, IsG W y.a y.n y.l ∧ Own3 W w0.heap.size y.a
  num : ∀ y ∈ ys, 0 ≤ y.q ∧ y.q ≤ 4294967295
  chn : Chn s ys
theorem JV.step {w0 : World} {s : ByteArray} {Bg : Nat} {ys : List Yi} {v : Value} {W W' : World} (h : JV w0 s Bg ys v W) (hb : Below w0.heap.size W W')
    (hk : ∀ k e cs, Row W k e cs → W'.heap[k]? = W.heap[k]?) : JV w0 s Bg ys v W' := by
  obtain ⟨b1, b2, b3, b4, ⟨cs, b5, b5'⟩, b6, b7, b8, b0, b9⟩ := h
  have key : ∀ k e cs, Row W k e cs → Row W' k e cs := fun k e cs hr => (hk k e cs hr).trans hr
  refine ⟨b1.trans hb, key _ _ _ b2, key _ _ _ b3, ?_, ⟨cs, key _ _ _ b5, b5'⟩, b6, b7, fun y hy => ?_, b0, b9⟩
  · refine ⟨b4.1, ?_⟩
    rcases b4.2 with h2 | ⟨g, cap, cur, rfl, hb', hg, r⟩
    · exact .inl h2
    · exact .inr ⟨g, cap, cur, rfl, hb', key _ _ _ hg, r⟩
  · obtain ⟨g1, g2⟩ := b8 y hy
    refine ⟨isG_heap g1 hb.size fun x hx => ?_, fun x hx => ?_⟩
    · obtain ⟨_, cur, hr⟩ := g2 x hx
      exact hk _ _ _ hr
    · obtain ⟨q1, cur, hr⟩ := g2 x hx
      exact ⟨q1, cur, key _ _ _ hr⟩
theorem JV.below {w0 : World} {s : ByteArray} {Bg : Nat} {ys : List Yi} {v : Value} {W W' : World} (h : JV w0 s Bg ys v W) (hb : Below W.heap.size W W') : JV w0 s Bg ys v W' :=
  h.step (hb.mono h.bel.size) fun k e cs hr => hb.block k hr.lt
theorem JV.put {w0 : World} {s : ByteArray} {Bg : Nat} {ys : List Yi} {v : Value} : Bides (w0.heap.size + 3) (JV w0 s Bg ys v) := fun W l o o' hl ho hc h => by
  refine h.step ((Below.refl _ _).grown (grownBy_putObj' W l o') (by have := h.bel.size; omega) (fun k e => by cases e; omega)) fun k e cs hr => World.putObj_heap_other fun e' => ?_
  subst e'
  have h1 : W.heap[k]? = some (.cells cs e (0, 0)) := hr
  rw [h1] at ho
  cases ho
  cases hc
end Go.Proofs.Ytkjhjpaacpcnmaa

/- What scan's groups hands on, round by round. -/
namespace Go.Proofs.Ytkjhjpaacpcnmaa
open Go.RowKit Go.Shelf Vecm Opened Wirem Txt Frm Blkm Grpm Scm Rgf
open Crcm (bys)
set_option linter.unusedVariables false
attribute [local go_sem] Oper.semAt_some

/-- One group handed on. -/
def encY (x : Yi) : Array Value := #[.agg #[.int .i64 x.q, .slice x.a x.n x.c], .string x.r]
/-- What the iterator knows of what it hands on. -/
def GY (w0 : World) (s : ByteArray) (ys : List Yi) (x : Yi) (W : World) : Prop :=
  rdE (bh s ys) = 0 ∧ x.q = rdN (bh s ys) ∧ x.l = rdL (bh s ys) ∧ x.r = rdR (bh s ys) ∧ IsG W x.a x.n x.l ∧ Own3 W w0.heap.size x.a
def JY (w0 : World) (s : ByteArray) (Bg : Nat) (ys : List Yi) (W : World) : Prop := ∃ v, JV w0 s Bg ys v W
/-- The iterator's own box is written. -/
theorem JV.box {w0 : World} {s : ByteArray} {Bg : Nat} {ys : List Yi} {v : Value} {W W' : World} {cs : Array Value} (h : JV w0 s Bg ys v W) (hb : Below w0.heap.size W W')
    (hk : ∀ k, k ≠ Bg → W'.heap[k]? = W.heap[k]?) (hr : Row W' Bg 30 cs) (hz : cs.size = 2) : JV w0 s Bg ys v W' := by
  obtain ⟨b1, b2, b3, b4, ⟨cs0, b5, b5'⟩, b6, b7, b8, b0, b9⟩ := h
  have key : ∀ k e cs, k ≠ Bg → Row W k e cs → Row W' k e cs := fun k e cs hn hr => (hk k hn).trans hr
  refine ⟨b1.trans hb, key _ _ _ (by omega) b2, key _ _ _ (by omega) b3, ?_, ⟨cs, hr, hz⟩, b6, b7, fun y hy => ?_, b0, b9⟩
  · refine ⟨b4.1, ?_⟩
    rcases b4.2 with h2 | ⟨g, cap, cur, rfl, hb', hg, r⟩
    · exact .inl h2
    · exact .inr ⟨g, cap, cur, rfl, hb', key _ _ _ (b7 g (by simp [blk])) hg, r⟩
  · obtain ⟨g1, g2⟩ := b8 y hy
    have hne := g2.apart b5 (by decide)
    refine ⟨isG_heap g1 hb.size fun x hx => hk _ (hne x hx), fun x hx => ?_⟩
    obtain ⟨q1, cur, hr⟩ := g2 x hx
    exact ⟨q1, cur, key _ _ _ (hne x hx) hr⟩
def mzY (b e : Value) : Nat := 2 * (match b with | .string r => r.size | _ => 0) + (if RowKit.intOf e = 0 then 1 else 0)
/-- The group at hand. -/
def HY (w0 : World) (s : ByteArray) (Bg : Nat) (ys : List Yi) (x : Yi) (E : Int) (W : World) : Prop :=
  Row W Bg 30 #[.int .i64 x.q, .slice x.a x.n x.c] ∧ E = rdE (bh s ys) ∧ x.q = rdN (bh s ys) ∧ x.l = rdL (bh s ys) ∧ x.r = rdR (bh s ys) ∧ IsG W x.a x.n x.l ∧ Own3 W w0.heap.size x.a

set_option maxHeartbeats 1000000 in
theorem groups_in (F : Fence) (n : Nat) (h5 : F.fn 46) (hro : F.round = none) (s : ByteArray) (w : World) :
    CallsIn F n Try.prog 46 #[.string s] w fun e w' => e = .returned (.func (.func 63) #[] #[.pointer (some ⟨w.heap.size, 0, none⟩)]) ∧ w' = w.alloc (.cells #[.string s] 9) := by
  refine callsIn_of_wp Try.func46 rfl h5 ?_ hro
  simp only [Try.ntmps46, List.size_toArray, List.length_cons, List.length_nil, Nat.reduceAdd, Nat.reduceSub, Array.replicate_succ, Array.replicate_zero, List.push_toArray, List.append_toArray, List.nil_append, List.cons_append]
  gi_wp2
  go_ret
  exact ⟨rfl, rfl⟩

set_option maxRecDepth 100000 in
set_option maxHeartbeats 2000000 in
theorem groups1_in (F : Fence) (hF : F = Fence.wide) (n : Nat) (hn : 2 ≤ n) (w0 w1 : World) (s : ByteArray) (hs : s.size ≤ 1073741824) (L : Nat) (Bk X : World → Prop)
    (hbk : ∀ W W', Bk W → KeepsFrom (w0.heap.size + 3) W W' → Bk W')
    (hY : ∀ Bg ys x W, JY w0 s Bg ys W → GY w0 s ys x W → Bk W → YieldAt F (n - 1) Try.prog L (encY x) W fun e W' => (e = .returned (.bool true) ∧ JY w0 s Bg (ys ++ [x]) W' ∧ Bk W') ∨ (e = .returned (.bool false) ∧ X W'))
    (hz : w1.heap.size = w0.heap.size + 5) (hB0 : Below w0.heap.size w0 w1) (hr0 : Row w1 w0.heap.size 47 #[.slice none 0 0]) (hr1 : Row w1 (w0.heap.size + 1) 9 #[.string s]) (hr2 : Row w1 (w0.heap.size + 2) 9 #[.string s]) (hk0 : Bk w1) :
    CallsIn F n Try.prog 63 #[.func (.yield L) #[] #[], .pointer (some ⟨w0.heap.size + 2, 0, none⟩)] w1 fun e W' => (∃ v, e = .returned v) ∧
      ((∃ Bg ys, rdE (bh s ys) ≠ 0 ∧ JY w0 s Bg ys W' ∧ Bk W') ∨ X W') := by
  have h1 : 1 ≤ n := by omega
  have h2 : 1 ≤ n - 1 := by omega
  have hro : F.round = none := by subst hF; rfl
  have hf : ∀ f, F.fn f := by subst hF; exact fun _ => trivial
  have HRD : Hid (∀ (r : ByteArray) W, r.size ≤ 1073741824 → CallsIn F (n - 1) Try.prog 22 #[.string r] W (GrP W r)) := show ∀ r W, _ → _ from fun r W hr => by
    subst hF; exact callsIn_wide.2 (fread_any r W hr)
  have HBK : Hid (∀ W W', Bk W → KeepsFrom (w0.heap.size + 3) W W' → Bk W') := hbk
  have HY' : Hid (∀ Bg ys x W, JY w0 s Bg ys W → GY w0 s ys x W → Bk W → YieldAt F (n - 1) Try.prog L (encY x) W fun e W' => (e = .returned (.bool true) ∧ JY w0 s Bg (ys ++ [x]) W' ∧ Bk W') ∨ (e = .returned (.bool false) ∧ X W')) := hY
  have HB0 : Hid (Below w0.heap.size w0 w1) := hB0
  have HR0 : Hid (Row w1 w0.heap.size 47 #[.slice none 0 0]) := hr0
  have HR1 : Hid (Row w1 (w0.heap.size + 1) 9 #[.string s]) := hr1
  have HK0 : Hid (Bk w1) := hk0
  have HZ : Hid (w1.heap.size = w0.heap.size + 5) := hz
  have hcs : w1.cell? ⟨w0.heap.size + 2, 0, none⟩ = some (.string s) := hr2.cell rfl
  clear hF hbk hY hB0 hr0 hr1 hr2 hk0 hz
  refine callsIn_of_wp Try.func63 rfl (hf _) ?_ hro
  simp only [Try.ntmps63, List.size_toArray, List.length_cons, List.length_nil, Nat.reduceAdd, Nat.reduceSub, Array.replicate_succ, Array.replicate_zero, List.push_toArray, List.append_toArray, List.nil_append, List.cons_append]
  gi_wp2_with (first | (gi_at_call 22; refine (HRD.out s _ hs).mono ?_; rintro e w2 ⟨ga, gn, gc, rfl, hg, ho, hb⟩) | fail)
  obtain ⟨Bg, hBg⟩ : ∃ B, B = w2.heap.size := ⟨_, rfl⟩
  obtain ⟨x0, hx0⟩ : ∃ x : Yi, x = ⟨rdN s, ga, gn, gc, rdL s, rdR s⟩ := ⟨_, rfl⟩
  have hw2 : w0.heap.size + 5 ≤ w2.heap.size := by have := hb.size; have := HZ.out; omega
  have HJ0 : Hid (JV w0 s Bg [] (.slice none 0 0) (w2.alloc (.cells #[.int .i64 (rdN s), .slice ga gn gc] 30))) := show JV _ _ _ _ _ _ from by
    have f2 : Fr [] w1 w2 := Fr.of_below hb
    have b2 : Below w0.heap.size w0 w2 := HB0.out.trans (hb.mono HB0.out.size)
    refine ⟨b2.alloc b2.size _, (HR0.out.kept f2 (by simp)).alloc _, (HR1.out.kept f2 (by simp)).alloc _, World.ownsRow_nil _ _ _ _, ⟨_, by rw [hBg]; exact Row.new _ _ _, rfl⟩, by omega, fun k hk => (by cases hk), fun y hy => (by cases hy), fun y hy => (by cases hy), Chn.nil s⟩
  have HH0 : Hid (HY w0 s Bg [] x0 (rdE s) (w2.alloc (.cells #[.int .i64 (rdN s), .slice ga gn gc] 30))) := show HY _ _ _ _ _ _ _ from by
    rw [hx0]
    exact ⟨by rw [hBg]; exact Row.new _ _ _, rfl, rfl, rfl, rfl, isG_heap hg (by simp) (fun x hx => by
      obtain ⟨_, cur, hr⟩ := ho x hx
      exact Below.heap_alloc _ _ _ hr.lt), (ho.below ((Below.refl _ _).alloc (Nat.le_refl _) _)).ge (by have := HZ.out; omega)⟩
  have HK2 : Hid (Bk (w2.alloc (.cells #[.int .i64 (rdN s), .slice ga gn gc] 30))) := show Bk _ from HBK.out _ _ HK0.out ⟨by have := hb.size; simp; omega, fun k o hk h0 _ => by
    have hlt := (Array.getElem?_eq_some_iff.1 h0).1
    rw [Below.heap_alloc _ _ _ (by have := hb.size; omega), hb.block k hlt]; exact h0⟩
  have HRX : Hid (rdR s = x0.r) := show _ = _ by rw [hx0]
  have HBg : Hid (Bg = w2.heap.size) := hBg
  clear hg ho hb HB0 HR0 HR1 HK0 hcs hx0 hBg
  gi_wp2
  rw [← HBg.out]
  clear HBg
  gi_loopw [4, 5] (fun bv ev wr => ∃ (ys : List Yi) (v : Value) (x : Yi) (E : Int), bv = .string x.r ∧ ev = .int .i64 E ∧ JV w0 s Bg ys v wr ∧ HY w0 s Bg ys x E wr ∧ Bk wr) (fun bv ev _ => mzY bv ev)
  case atStart => exact ⟨[], _, x0, rdE s, by rw [HRX.out], rfl, HJ0.out, HH0.out, HK2.out⟩
  case round =>
    obtain ⟨ys, v, x, E, rfl, rfl, hj, hh, hk⟩ := hrel
    have HJ : Hid (JV w0 s Bg ys v wr) := hj
    have HH : Hid (HY w0 s Bg ys x E wr) := hh
    have HK : Hid (Bk wr) := hk
    obtain ⟨hrow, hE, hq, hl, hr, hg, ho⟩ := hh
    have c0 : wr.cell? ⟨Bg, 0, none⟩ = some (.int .i64 x.q) := hrow.cell rfl
    have c1 : wr.cell? ⟨Bg, 1, none⟩ = some (.slice x.a x.n x.c) := hrow.cell rfl
    by_cases he : E = 0
    case neg =>
      have hne : (E == 0) = false := by rw [beq_eq_false_iff_ne]; exact he
      have HS : Hid (rdE (bh s ys) ≠ 0) := show _ ≠ _ by rw [← hE]; exact he
      clear hj hk hrow hE hq hl hr hg ho he c0 c1
      gi_wp2
      (try (refine ⟨fun _ h => (by cases h), ?_⟩; gi_wp2))
      go_end0
      exact ⟨⟨_, rfl⟩, .inl ⟨Bg, ys, HS.out, ⟨v, HJ.out⟩, HK.out⟩⟩
    obtain ⟨fn, tmps, assign, body, hy, hR⟩ := HY'.out Bg ys x wr ⟨v, hj⟩ ⟨by rw [← hE]; exact he, hq, hl, hr, hg, ho⟩ hk
    have hRr : x.r.size ≤ 1073741824 := by
      have h1 := rdR_le (bh s ys)
      have h2 := hj.chn.len
      rw [hr]; omega
    have HRL : Hid (rdE x.r = 0 → (rdR x.r).size < x.r.size) := show _ → _ from fun h => by have := rd_len h; omega
    have HRN : Hid (rdE x.r ≠ 0 → rdR x.r = ⟨#[]⟩) := show _ → _ from rdR_no
    have HR2 := show Hid (∀ W, _) from fun W => HRD.out x.r W hRr
    unfold encY at hy
    clear hj hk hrow hE hq hl hr hg ho hRr HJ HH HK
    subst he
    gi_wp2
    refine hR.mono ?_
    rintro e W3 (⟨rfl, ⟨v3, hj3⟩, hk3⟩ | ⟨rfl, hX⟩)
    case inr =>
      have HX : Hid (X W3) := hX
      clear hX
      gi_wp2
      go_end0
      exact ⟨⟨_, rfl⟩, .inr HX.out⟩
    have HJ3 : Hid (JV w0 s Bg (ys ++ [x]) v3 W3) := hj3
    have HK3 : Hid (Bk W3) := hk3
    clear hj3 hk3 c0 c1 hy hR
    gi_wp2_with fail
    refine (HR2.out _).mono ?_
    rintro e w4 ⟨ga', gn', gc', rfl, hg, ho, hb⟩
    obtain ⟨x', hx'⟩ : ∃ x' : Yi, x' = ⟨rdN x.r, ga', gn', gc', rdL x.r, rdR x.r⟩ := ⟨_, rfl⟩
    have hbx : bh s (ys ++ [x]) = x.r := bh_snoc s ys x
    have hj4 := HJ3.out.below hb
    obtain ⟨cs, hrow4, hcz⟩ := hj4.its
    obtain ⟨d0, d1, hcs⟩ : ∃ d0 d1, cs = #[d0, d1] := ⟨cs[0]'(by omega), cs[1]'(by omega), by
      refine Array.ext (by simp [hcz]) fun i h1 h2 => ?_
      have : i = 0 ∨ i = 1 := by omega
      rcases this with rfl | rfl <;> rfl⟩
    subst hcs
    have u0 : w4.cell? ⟨Bg, 0, none⟩ = some d0 := hrow4.cell rfl
    have u1 : w4.cell? ⟨Bg, 1, none⟩ = some d1 := hrow4.cell rfl
    have uf0 : w4.frozen? ⟨Bg, 0, none⟩ = false := hrow4.frozen
    have hrow5 := Row.set hrow4 0 (.int .i64 (rdN x.r))
    have u2 : (w4.setCell ⟨Bg, 0, none⟩ (.int .i64 (rdN x.r))).cell? ⟨Bg, 1, none⟩ = some d1 := hrow5.cell rfl
    have uf1 : (w4.setCell ⟨Bg, 0, none⟩ (.int .i64 (rdN x.r))).frozen? ⟨Bg, 1, none⟩ = false := hrow5.frozen
    have hrow6 := Row.set hrow5 1 (.slice ga' gn' gc')
    have hrow6 : Row _ Bg 30 #[.int .i64 (rdN x.r), .slice ga' gn' gc'] := hrow6
    have hb6 : Below w0.heap.size w4 ((w4.setCell ⟨Bg, 0, none⟩ (.int .i64 (rdN x.r))).setCell ⟨Bg, 1, none⟩ (.slice ga' gn' gc')) := ((Below.refl _ _).setCell (show w0.heap.size ≤ Bg by have := hj4.far; omega) _).setCell (show w0.heap.size ≤ Bg by have := hj4.far; omega) _
    have hk6 : ∀ k, k ≠ Bg → ((w4.setCell ⟨Bg, 0, none⟩ (.int .i64 (rdN x.r))).setCell ⟨Bg, 1, none⟩ (.slice ga' gn' gc')).heap[k]? = w4.heap[k]? := fun k hk => by
      rw [Below.heap_setCell _ _ _ k hk, Below.heap_setCell _ _ _ k hk]
    have hne6 := ho.apart hrow4 (by decide)
    have HJ6 : Hid (JV w0 s Bg (ys ++ [x]) v3 ((w4.setCell ⟨Bg, 0, none⟩ (.int .i64 (rdN x.r))).setCell ⟨Bg, 1, none⟩ (.slice ga' gn' gc'))) := show JV _ _ _ _ _ _ from hj4.box hb6 hk6 hrow6 rfl
    have HH6 : Hid (HY w0 s Bg (ys ++ [x]) x' (rdE x.r) ((w4.setCell ⟨Bg, 0, none⟩ (.int .i64 (rdN x.r))).setCell ⟨Bg, 1, none⟩ (.slice ga' gn' gc'))) := show HY _ _ _ _ _ _ _ from by
      rw [hx', HY, hbx]
      exact ⟨hrow6, rfl, rfl, rfl, rfl, isG_heap hg hb6.size (fun y hy => hk6 _ (hne6 y hy)), fun y hy => by
        obtain ⟨q1, cur, hr⟩ := ho y hy
        exact ⟨by have := HJ3.out.bel.size; omega, cur, (hk6 _ (hne6 y hy)).trans hr⟩⟩
    have HK6 : Hid (Bk ((w4.setCell ⟨Bg, 0, none⟩ (.int .i64 (rdN x.r))).setCell ⟨Bg, 1, none⟩ (.slice ga' gn' gc'))) := show Bk _ from HBK.out _ _ HK3.out ⟨Nat.le_trans hb.size hb6.size, fun k o hk h0 hc => by
      have hlt := (Array.getElem?_eq_some_iff.1 h0).1
      have h4 := (hb.block k hlt).trans h0
      have hkb : k ≠ Bg := fun e => by
        have h5 : w4.heap[Bg]? = some (.cells #[d0, d1] 30 (0, 0)) := hrow4
        rw [e, h5] at h4
        cases h4
        cases hc
      rw [hk6 k hkb]; exact h4⟩
    have hxr : rdR x.r = x'.r := by rw [hx']
    have HXR : Hid (rdR x.r = x'.r) := hxr
    have HMZ : Hid (mzY (.string x'.r) (.int .i64 (rdE x.r)) < mzY (.string x.r) (.int .i64 0)) := show _ < _ by
      rw [← hxr]
      show 2 * (rdR x.r).size + (if rdE x.r = 0 then 1 else 0) < 2 * x.r.size + (if (0 : Int) = 0 then 1 else 0)
      rw [if_pos rfl]
      by_cases h0 : rdE x.r = 0
      · have := HRL.out h0
        rw [if_pos h0]; omega
      · have e := HRN.out h0
        rw [if_neg h0, e]
        show 2 * 0 + 0 < _
        omega
    clear hxr hg ho hb hj4 hrow4 hcz hrow5 hrow6 hb6 hk6 hne6 hx' HJ3 HK3 hbx
    gi_wp2
    go_roundw
    case rel => exact ⟨ys ++ [x], v3, x', rdE x.r, by rw [← HXR.out], rfl, HJ6.out, HH6.out, HK6.out⟩
    case measure =>
      show mzY (.string (rdR x.r)) (.int .i64 (rdE x.r)) < mzY (.string x.r) (.int .i64 0)
      rw [HXR.out]; exact HMZ.out
end Go.Proofs.Ytkjhjpaacpcnmaa

/- An append to a row of one's own: behind it the row lies where it lay, or in a new block. -/
namespace Frm
open Go Go.RowKit
set_option linter.unusedVariables false
variable {P : Program} (w : World)

theorem run_append_at (base : Nat) (t ty e : TypeId) (i : TypeInfo) (z : Value) (size bytes : Nat) (ht : P.underlying t = some (.slice e)) (hi : P.info? e = some i) (hz : i.zero = some z)
    (hsize : i.size = size) (hby : i.bytes = bytes) (hzs : z.cells.size = size) (hsz : 0 < size)
    (v : Value) (n : Nat) (xs : List Value) (hown : w.ownsRow base e size v n xs)
    (a : Addr) (m c : Nat) (news : List Value) (hl : news.length = m * size) (hnews : ∀ j u, news[j]? = some u → w.cell? (a.add j) = some u) (h1 : ∀ u ∈ news, u.oneCell' = true)
    (h63 : n + m ≤ maxLen) (hbytes : (n + m) * bytes ≤ 140737488355328) (hbase : base ≤ w.heap.size) :
    ∃ v' w', (Builtin.append_ #[t, t] ty #[v, .slice (some a) m c]).run P w = .ok v' w' ∧ w'.ownsRow base e size v' (n + m) (xs ++ news) ∧ Fr (blk v) w w' ∧ (∀ k ∈ blk v', k ∈ blk v ∨ w.heap.size ≤ k) := by
  obtain ⟨v', w', hr, h2, h3, h4⟩ := run_append_own (P := P) w base t ty e i z size bytes ht hi hz hsize hby hzs hsz v n xs hown a m c news hl hnews h1 h63 hbytes hbase
  refine ⟨v', w', hr, h2, (Fr.refl _ _).grown h3 (fun k hk => .inl (blk_own hk)), ?_⟩
  subst hsize
  subst hby
  have hsmall : n + m ≤ 9223372036854775807 := by simp only [maxLen] at h63; omega
  rcases hown.2 with ⟨rfl, rfl⟩ | ⟨g, cap, cur, rfl, hbg, hg, hnc, hcm, hcs, htake⟩
  · have hx : xs = [] := List.eq_nil_of_length_eq_zero (by simpa using hown.1)
    subst hx
    by_cases hm : m = 0
    · have e0 := h4.2 ⟨rfl, hm⟩
      subst e0
      intro k hk; cases hk
    · have hr2 := run_append_nil (P := P) w t ty e i z ht hi hz a m c news hl hnews (by omega) (by omega) (by have hb := hbytes; simp only [Nat.zero_add] at hb; omega)
      rw [hr] at hr2
      simp only [Result.ok.injEq] at hr2
      rw [hr2.1]
      intro k hk
      simp [blk] at hk
      exact .inr (by omega)
  · by_cases hroom : n + m ≤ cap
    · have hfit : n * i.size + news.length ≤ cur.size := by rw [hl, hcs, ← Nat.add_mul]; exact Nat.mul_le_mul_right _ hroom
      have hr2 := run_append_room (P := P) w t ty e i ht hi g n cap cur hg a m c news hl hnews h1 hroom hfit
      rw [hr] at hr2
      simp only [Result.ok.injEq] at hr2
      rw [hr2.1]
      intro k hk
      simp [blk] at hk
      exact .inl (by simp [blk, hk])
    · have holds : ∀ j u, xs[j]? = some u → w.cell? ((⟨g, 0, none⟩ : Addr).add j) = some u := hown.cells (g := g) rfl
      have hr2 := run_append_grow (P := P) w t ty e i z ht hi hz ⟨g, 0, none⟩ n cap xs hown.1 holds a m c news hl hnews (by omega) (by omega) (growslice_fits (by omega) hbytes)
      rw [hr] at hr2
      simp only [Result.ok.injEq] at hr2
      rw [hr2.1]
      intro k hk
      simp [blk] at hk
      exact .inr (by omega)

theorem wpList_append_at {ops : Array Oper} {rest : List Oper} {o : Oper} {a : Act} {Q : Exit → Act → World → Prop} (hgd : o.guard = none) (s x : Operand) (t : TypeId)
    (ho : o.op = .call { callee := .builtin .append, args := #[s, x], argTypes := #[t, t] })
    (base : Nat) (e : TypeId) (i : TypeInfo) (z : Value) (size bytes : Nat) (ht : P.underlying t = some (.slice e)) (hi : P.info? e = some i) (hz : i.zero = some z)
    (hsize : i.size = size) (hby : i.bytes = bytes) (hzs : z.cells.size = size) (hsz : 0 < size)
    (v : Value) (n : Nat) (xs : List Value) (hs : a.eval s = v) (hown : w.ownsRow base e size v n xs)
    (ad : Addr) (m c : Nat) (news : List Value) (hx : a.eval x = .slice (some ad) m c) (hl : news.length = m * size) (hnews : ∀ j u, news[j]? = some u → w.cell? (ad.add j) = some u) (h1 : ∀ u ∈ news, u.oneCell' = true)
    (h63 : n + m ≤ maxLen) (hbytes : (n + m) * bytes ≤ 140737488355328) (hbase : base ≤ w.heap.size)
    (h : ∀ v' w', w'.ownsRow base e size v' (n + m) (xs ++ news) → Fr (blk v) w w' → (∀ k ∈ blk v', k ∈ blk v ∨ w.heap.size ≤ k) → wpList P ops Q rest (a.put o.dst v') w') : wpList P ops Q (o :: rest) a w := by
  obtain ⟨v', w', hr, h2, h3, h4⟩ := run_append_at (P := P) w base t o.type e i z size bytes ht hi hz hsize hby hzs hsz v n xs hown ad m c news hl hnews h1 h63 hbytes hbase
  refine wpList_plain hgd fun _ hK => ?_
  unfold Oper.wp execOp
  simp only [ho, resolve, invoke, builtin, Sem.run_bind, Sem.run_pure, Result.andThen_ok, List.map_toArray, List.map_cons, List.map_nil, hs, hx, hr]
  exact hK _ _ (h v' w' h2 h3 h4)
end Frm

/- An append to a row of one's own, inside a fence: behind it the row lies where it lay, or in a new block. -/
namespace Frm
open Go Go.RowKit
set_option linter.unusedVariables false

theorem wpListIn_append_at {F : Fence} {n : Nat} {P : Program} (w : World) {ops : Array Oper} {rest : List Oper} {o : Oper} {a : Act} {Q : Exit → Act → World → Prop} (hgd : o.guard = none) (s x : Operand) (t : TypeId)
    (ho : o.op = .call { callee := .builtin .append, args := #[s, x], argTypes := #[t, t] })
    (base : Nat) (e : TypeId) (i : TypeInfo) (z : Value) (size bytes : Nat) (ht : P.underlying t = some (.slice e)) (hi : P.info? e = some i) (hz : i.zero = some z)
    (hsize : i.size = size) (hby : i.bytes = bytes) (hzs : z.cells.size = size) (hsz : 0 < size)
    (v : Value) (k : Nat) (xs : List Value) (hs : a.eval s = v) (hown : w.ownsRow base e size v k xs)
    (ad : Addr) (m c : Nat) (news : List Value) (hx : a.eval x = .slice (some ad) m c) (hl : news.length = m * size) (hnews : ∀ j u, news[j]? = some u → w.cell? (ad.add j) = some u) (h1 : ∀ u ∈ news, u.oneCell' = true)
    (h63 : k + m ≤ maxLen) (hbytes : (k + m) * bytes ≤ 140737488355328) (hbase : base ≤ w.heap.size)
    (h : ∀ v' w', w'.ownsRow base e size v' (k + m) (xs ++ news) → Fr (blk v) w w' → (∀ j ∈ blk v', j ∈ blk v ∨ w.heap.size ≤ j) → wpListIn F n P ops Q rest (a.put o.dst v') w') : wpListIn F n P ops Q (o :: rest) a w := by
  refine wpListIn_plain hgd fun K hK' => ?_
  obtain ⟨v', w', hr, h2, h3, h4⟩ := run_append_at (P := P) w base t o.type e i z size bytes ht hi hz hsize hby hzs hsz v k xs hown ad m c news hl hnews h1 h63 hbytes hbase
  refine ⟨?_, ?_⟩
  · simp [Oper.about, ho, resolve, Target.leads, Sem.run_pure]
  · rw [Oper.semAt_plain F _ _ (by rw [ho]; intro c hc'; cases hc')]
    simp [execOp, ho, resolve, invoke, builtin, hs, hx, hr, Result.andThen]
    exact hK' _ _ (h v' w' h2 h3 h4)
end Frm

/- What scan's All returns. -/
namespace Go.Proofs.Ytkjhjpaacpcnmaa
open Go.RowKit Go.Shelf Vecm Opened Wirem Txt Frm Blkm Grpm Scm Rgf
open Crcm (bys)
set_option linter.unusedVariables false
attribute [local go_sem] Oper.semAt_some

/-- What All returns: the groups, and how many bytes they have. -/
def AllP (w : World) (s : ByteArray) (e : Ending) (w' : World) : Prop :=
  ∃ a c ys, e = .returned (.tuple #[.slice a ys.length c, .int .i64 ((s.size : Int) - ((scA none s).2.size : Int))]) ∧ grY ys = (scA none s).1 ∧ IsY w' a ys.length ys ∧ ys.length ≤ c ∧ (a = none → c = 0) ∧ Below w.heap.size w w'
/-- A break: the group at hand does not follow. -/
def JxY (w0 : World) (s : ByteArray) (c : Code) (W : World) : Prop := c = .exit 0 ∧ ∃ Bg ys, JY w0 s Bg ys W ∧ nx (lq ys) (bh s ys) = false
/-- The temporaries when the body of a round begins. -/
def tmY (w0 : World) (s : ByteArray) (x : Yi) (Bx : Nat) : Array Value :=
  #[.string s, undef, .slice none 0 0, .int .i64 0, .pointer (some ⟨w0.heap.size, 0, none⟩), .pointer (some ⟨w0.heap.size + 1, 0, none⟩), .pointer (some ⟨Bx, 0, none⟩), .string x.r, undef, .string s, .string s, .func (.func 63) #[] #[.pointer (some ⟨w0.heap.size + 2, 0, none⟩)], .agg #[.int .i64 x.q, .slice x.a x.n x.c], .string x.r,
    undef, undef, undef, undef, undef, undef, undef, undef, undef, undef, undef, undef, undef, undef, undef, undef, undef, undef, undef, undef, undef, undef, undef, undef, undef, undef, undef]
def AxY (w0 : World) (s : ByteArray) (Bg : Nat) (ys : List Yi) (x : Yi) (a' : Act) (W : World) : Prop :=
  ∃ v Bx, JV w0 s Bg ys v W ∧ GY w0 s ys x W ∧ Row W Bx 30 #[.int .i64 x.q, .slice x.a x.n x.c] ∧ w0.heap.size + 5 ≤ Bx ∧ Bx ≠ Bg ∧ (∀ k ∈ blk v, k ≠ Bx) ∧ a' = { tmps := tmY w0 s x Bx, defers := [] }
theorem row_put {W : World} {k l : Nat} {e : TypeId} {cs : Array Value} {o o' : Obj} (h : Row W k e cs) (ho : W.heap[l]? = some o) (hc : o.isCells = false) : Row (W.putObj l o') k e cs :=
  (World.putObj_heap_other fun e' => by
    subst e'
    have h1 : W.heap[k]? = some (.cells cs e (0, 0)) := h
    rw [h1] at ho
    cases ho
    cases hc).trans h
theorem GY.put {w0 : World} {s : ByteArray} {ys : List Yi} {x : Yi} {W : World} {l : Nat} {o o' : Obj} (h : GY w0 s ys x W) (ho : W.heap[l]? = some o) (hc : o.isCells = false) : GY w0 s ys x (W.putObj l o') := by
  obtain ⟨g1, g2, g3, g4, g5, g6⟩ := h
  refine ⟨g1, g2, g3, g4, isG_heap g5 (by simp) fun y hy => ?_, fun y hy => ?_⟩
  · obtain ⟨_, cur, hr⟩ := g6 y hy
    exact (row_put hr ho hc).trans hr.symm
  · obtain ⟨q, cur, hr⟩ := g6 y hy
    exact ⟨q, cur, row_put hr ho hc⟩
theorem JY.put {w0 : World} {s : ByteArray} {Bg : Nat} {ys : List Yi} : Bides (w0.heap.size + 3) (JY w0 s Bg ys) := fun W l o o' hl ho hc ⟨v, h⟩ => ⟨v, JV.put W l o o' hl ho hc h⟩
theorem JxY.put {w0 : World} {s : ByteArray} (c : Code) : Bides (w0.heap.size + 3) (JxY w0 s c) := fun W l o o' hl ho hc ⟨h1, Bg, ys, h2, h3⟩ => ⟨h1, Bg, ys, JY.put W l o o' hl ho hc h2, h3⟩
theorem AxY.put {w0 : World} {s : ByteArray} {Bg : Nat} {ys : List Yi} {x : Yi} {a' : Act} : Bides (w0.heap.size + 3) (AxY w0 s Bg ys x a') := fun W l o o' hl ho hc ⟨v, Bx, h1, h2, h3, h4⟩ =>
  ⟨v, Bx, JV.put W l o o' hl ho hc h1, h2.put ho hc, row_put h3 ho hc, h4⟩
theorem JV.out {w0 : World} {s : ByteArray} {Bg : Nat} {ys : List Yi} {v : Value} {W : World} (h : JV w0 s Bg ys v W) : ∃ a c, v = .slice a ys.length c ∧ IsY W a ys.length ys ∧ ys.length ≤ c ∧ c ≤ maxLen ∧ (a = none → c = 0) := by
  refine own_isY h.own ?_ fun y hy => (h.grp y hy).1
  rcases h.own.2 with ⟨_, e⟩ | ⟨g, cap, cur, _, _, _, h1, h2, _⟩
  · rw [e]; exact Nat.zero_le _
  · omega

theorem GY.below {w0 : World} {s : ByteArray} {ys : List Yi} {x : Yi} {W W' : World} (h : GY w0 s ys x W) (hb : Below W.heap.size W W') : GY w0 s ys x W' := by
  obtain ⟨g1, g2, g3, g4, g5, g6⟩ := h
  exact ⟨g1, g2, g3, g4, g5.below hb, g6.below hb⟩
/-- One group more: the list, and what stands behind. -/
theorem JV.app {w0 : World} {s : ByteArray} {Bg : Nat} {ys : List Yi} {x : Yi} {v v' : Value} {W W' : World} (h : JV w0 s Bg ys v W) (hg : GY w0 s ys x W) (hn : nx (lq ys) (bh s ys) = true)
    (ho : W'.ownsRow (w0.heap.size + 5) 30 2 v' (ys.length + 1) (ycs ys ++ [.int .i64 x.q, .slice x.a x.n x.c])) (hf : Fr (blk v) W W') (hb : ∀ k ∈ blk v', k ∈ blk v ∨ W.heap.size ≤ k) :
    Row W' w0.heap.size 47 #[v] ∧ Row W' (w0.heap.size + 1) 9 #[.string (bh s ys)] ∧ (∀ (k : Nat) (o : Obj), W.heap[k]? = some o → o.isCells = false → ((W'.setCell ⟨w0.heap.size, 0, none⟩ v').setCell ⟨w0.heap.size + 1, 0, none⟩ (.string x.r)).heap[k]? = some o) ∧ W.heap.size ≤ ((W'.setCell ⟨w0.heap.size, 0, none⟩ v').setCell ⟨w0.heap.size + 1, 0, none⟩ (.string x.r)).heap.size ∧ JV w0 s Bg (ys ++ [x]) v' ((W'.setCell ⟨w0.heap.size, 0, none⟩ v').setCell ⟨w0.heap.size + 1, 0, none⟩ (.string x.r)) := by
  obtain ⟨b1, b2, b3, b4, ⟨cs, b5, b5'⟩, b6, b7, b8, b0, b9⟩ := h
  obtain ⟨g1, g2, g3, g4, g5, g6⟩ := hg
  have far : ∀ k ∈ blk v, w0.heap.size + 5 ≤ k := own_base b4
  have far' : ∀ k ∈ blk v', w0.heap.size + 5 ≤ k := own_base ho
  have l0 : Row W' w0.heap.size 47 #[v] := b2.kept hf (fun hk => by have := far _ hk; omega)
  have l1 : Row W' (w0.heap.size + 1) 9 #[.string (bh s ys)] := b3.kept hf (fun hk => by have := far _ hk; omega)
  have l2 : Row W' Bg 30 cs := b5.kept hf (fun hk => b7 _ hk rfl)
  have hgl := b5.lt
  have hs2 : ∀ k, k ≠ w0.heap.size → k ≠ w0.heap.size + 1 → ((W'.setCell ⟨w0.heap.size, 0, none⟩ v').setCell ⟨w0.heap.size + 1, 0, none⟩ (.string x.r)).heap[k]? = W'.heap[k]? := fun k h0 h1 => by
    rw [Below.heap_setCell _ _ _ k h1, Below.heap_setCell _ _ _ k h0]
  have fr2 : Fr [w0.heap.size, w0.heap.size + 1] W' ((W'.setCell ⟨w0.heap.size, 0, none⟩ v').setCell ⟨w0.heap.size + 1, 0, none⟩ (.string x.r)) := ((Fr.refl _ W').setCell (.inl (by simp)) _).setCell (.inl (by simp)) _
  have grp : ∀ y : Yi, IsG W y.a y.n y.l → Own3 W w0.heap.size y.a → IsG ((W'.setCell ⟨w0.heap.size, 0, none⟩ v').setCell ⟨w0.heap.size + 1, 0, none⟩ (.string x.r)) y.a y.n y.l ∧ Own3 ((W'.setCell ⟨w0.heap.size, 0, none⟩ v').setCell ⟨w0.heap.size + 1, 0, none⟩ (.string x.r)) w0.heap.size y.a := fun y hy1 hy2 => by
    have key : ∀ ad, y.a = some ad → ((W'.setCell ⟨w0.heap.size, 0, none⟩ v').setCell ⟨w0.heap.size + 1, 0, none⟩ (.string x.r)).heap[ad.block]? = W.heap[ad.block]? := fun ad had => by
      have n0 := hy2.apart b2 (by decide) ad had
      have n1 := hy2.apart b3 (by decide) ad had
      obtain ⟨_, cur, hr⟩ := hy2 ad had
      have nv : ad.block ∉ blk v := fun hk => by
        rcases b4.2 with ⟨rfl, _⟩ | ⟨g, cap, cur', rfl, _, hg', _⟩
        · cases hk
        · simp only [blk, List.mem_singleton] at hk
          rw [hk] at hr
          have h1 : W.heap[g]? = some (.cells cur 62 (0, 0)) := hr
          rw [hg'] at h1
          injection h1 with h1
          injection h1 with _ h1 _
          exact absurd h1 (by decide)
      rw [hs2 _ n0 n1]
      exact hf.block _ hr.lt nv
    refine ⟨isG_heap hy1 (Nat.le_trans hf.size fr2.size) key, fun ad had => ?_⟩
    obtain ⟨q1, cur, hr⟩ := hy2 ad had
    exact ⟨q1, cur, (key ad had).trans hr⟩
  refine ⟨l0, l1, fun k o hk hc => ?_, Nat.le_trans hf.size fr2.size, (b1.trans (hf.below (fun k hk => by have := far k hk; omega) b1.size)).trans (fr2.below (fun k hk => by simp at hk; omega) (by have := b1.size; have := hf.size; omega)), ?_, ?_, ?_, ⟨cs, (hs2 _ (by omega) (by omega)).trans l2, b5'⟩, b6, ?_, ?_, ?_, b9.snoc hn g2 g3 g4⟩
  · have nr : ∀ (e : TypeId) (cs : Array Value), ¬ Row W k e cs := fun (e : TypeId) (cs : Array Value) hr => by
      have h1 : W.heap[k]? = some (.cells cs e (0, 0)) := hr
      rw [h1] at hk
      cases hk
      cases hc
    rw [hs2 k (fun e => nr _ _ (e ▸ b2)) (fun e => nr _ _ (e ▸ b3)), hf.block k (Array.getElem?_eq_some_iff.1 hk).1 (fun hm => ?_)]
    · exact hk
    · rcases b4.2 with ⟨rfl, _⟩ | ⟨g, cap, cur', rfl, _, hg', _⟩
      · cases hm
      · simp only [blk, List.mem_singleton] at hm
        exact nr _ _ (hm ▸ hg')
  · exact (Row.set l0 0 v').other (by omega) _
  · rw [bh_snoc]
    exact Row.set (l1.other (by omega) v') 0 _
  · rw [List.length_append]
    rw [ycs_snoc] at ho
    exact own_kept ho fr2 (fun k hk e => by have := far' k hk; simp at e; omega)
  · intro k hk e
    rcases hb k hk with h1 | h1
    · exact b7 k h1 e
    · omega
  · intro y hy
    rcases List.mem_append.1 hy with h1 | h1
    · exact grp y (b8 y h1).1 (b8 y h1).2
    · simp only [List.mem_singleton] at h1
      subst h1
      exact grp y g5 g6
  · intro y hy
    rcases List.mem_append.1 hy with h1 | h1
    · exact b0 y h1
    · simp only [List.mem_singleton] at h1
      subst h1
      have := (grE_zero.1 (rd_gr g1).1).2
      rw [g2]; exact this

/-- The same, as the walk asks it. -/
theorem JV.app2 {w0 : World} {s : ByteArray} {Bg : Nat} {ys : List Yi} {x : Yi} {v v' : Value} {U W' : World} {o : Obj} (h : JV w0 s Bg ys v U) (hg : GY w0 s ys x U) (hn : nx (lq ys) (bh s ys) = true)
    (ho : W'.ownsRow (w0.heap.size + 5) 30 2 v' (ys.length + 1) (ycs ys ++ [.int .i64 x.q, .slice x.a x.n x.c])) (hf : Fr (blk v) (U.alloc o) W') (hb : ∀ k ∈ blk v', k ∈ blk v ∨ (U.alloc o).heap.size ≤ k) :
    W'.cell? ⟨w0.heap.size, 0, none⟩ = some v ∧ W'.frozen? ⟨w0.heap.size, 0, none⟩ = false ∧ (W'.setCell ⟨w0.heap.size, 0, none⟩ v').cell? ⟨w0.heap.size + 1, 0, none⟩ = some (.string (bh s ys)) ∧ (W'.setCell ⟨w0.heap.size, 0, none⟩ v').frozen? ⟨w0.heap.size + 1, 0, none⟩ = false ∧
    Hid (KeepsFrom (w0.heap.size + 3) U ((W'.setCell ⟨w0.heap.size, 0, none⟩ v').setCell ⟨w0.heap.size + 1, 0, none⟩ (.string x.r)) ∧ JY w0 s Bg (ys ++ [x]) ((W'.setCell ⟨w0.heap.size, 0, none⟩ v').setCell ⟨w0.heap.size + 1, 0, none⟩ (.string x.r))) := by
  obtain ⟨l0, l1, k1, k2, hj⟩ := h.app hg hn ho (((Fr.refl _ U).alloc _).trans hf (fun k hk => .inl hk)) (fun k hk => (hb k hk).imp id (fun h => Nat.le_trans (by simp) h))
  have l2 : Row (W'.setCell ⟨w0.heap.size, 0, none⟩ v') (w0.heap.size + 1) 9 #[.string (bh s ys)] := l1.other (by omega) v'
  exact ⟨l0.cell rfl, l0.frozen, l2.cell rfl, l2.frozen, ⟨k2, fun k o _ hk hc => k1 k o hk hc⟩, ⟨v', hj⟩⟩

set_option maxRecDepth 100000 in
set_option maxHeartbeats 4000000 in
theorem sall_in (s : ByteArray) (w : World) (hs : s.size ≤ 1073741824) (F : Fence) (hF : F = Fence.wide) (n : Nat) (hn : 6 ≤ n) :
    CallsIn F n Try.prog 26 #[.string s] w (AllP w s) := by
  have h1 : 1 ≤ n := by omega
  have hro : F.round = none := by subst hF; rfl
  have hf : ∀ f, F.fn f := by subst hF; exact fun _ => trivial
  have HF : Hid (F = Fence.wide) := hF
  clear hF
  refine callsIn_of_wp_marks Try.func26 rfl (hf _) ?_ hro
  simp only [Try.ntmps26, List.size_toArray, List.length_cons, List.length_nil, Nat.reduceAdd, Nat.reduceSub, Array.replicate_succ, Array.replicate_zero, List.push_toArray, List.append_toArray, List.nil_append, List.cons_append]
  gi_wp2_with (gi_at_call 46; refine (groups_in F (n - 1) (hf _) hro _ _).mono ?_; rintro e w1 ⟨rfl, rfl⟩)
  obtain ⟨V, hV⟩ : ∃ V, V = ((w.alloc (.cells #[.slice none 0 0] 47)).alloc (.cells #[.string s] 9)).alloc (.cells #[.string s] 9) := ⟨_, rfl⟩
  have hVz : V.heap.size = w.heap.size + 3 := by rw [hV]; simp
  have hB0 : Below w.heap.size w V := by rw [hV]; exact (((Below.refl _ _).alloc (Nat.le_refl _) _).alloc (by simp) _).alloc (by simp; omega) _
  have r0 : Row V w.heap.size 47 #[.slice none 0 0] := by rw [hV]; exact ((Row.new _ _ _).alloc _).alloc _
  have r1 : Row V (w.heap.size + 1) 9 #[.string s] := by
    have := Row.new (w.alloc (.cells #[.slice none 0 0] 47)) 9 #[.string s]
    rw [World.size_alloc] at this
    rw [hV]; exact this.alloc _
  have r2 : Row V (w.heap.size + 2) 9 #[.string s] := by
    have := Row.new ((w.alloc (.cells #[.slice none 0 0] 47)).alloc (.cells #[.string s] 9)) 9 #[.string s]
    rw [World.size_alloc, World.size_alloc] at this
    rw [hV]; exact this
  rw [← hV]
  clear hV
  refine range_law hro h1 (gf := 63) (lb := #[.pointer (some ⟨w.heap.size + 2, 0, none⟩)]) rfl (hf _) (enters_of Try.func63 (by kernel_rfl) rfl) (encs := encY) (fun _ => rfl)
    (JY w s) (fun Bg ys x W => GY w s ys x W) (fun Bg ys => rdE (bh s ys) ≠ 0) (JxY w s) (AxY w s)
    (by rw [hVz]; exact fun _ _ => JY.put) (by rw [hVz]; exact JxY.put) (by rw [hVz]; exact fun _ _ _ _ => AxY.put) ?hit ?assign ?body ?done ?stop
  case hit =>
    intro Bk X hbk hY o ho hk0
    have hz : ((V.alloc (.deferred (some []))).alloc o).heap.size = w.heap.size + 5 := by simp; omega
    have q0 : ∀ k e cs, Row V k e cs → Row ((V.alloc (.deferred (some []))).alloc o) k e cs := fun k e cs h => (h.alloc _).alloc _
    refine groups1_in F HF.out (n - 1) (by omega) w _ s hs _ Bk X (by rw [← hVz]; exact hbk) ?_ hz ?_ (q0 _ _ _ r0) (q0 _ _ _ r1) (q0 _ _ _ r2) hk0
    · intro Bg ys x W hj hg hb
      exact hY Bg ys x W hj hg hb
    · exact hB0.trans (((Below.refl _ V).alloc (by omega) _).alloc (by simp; omega) _)
  case assign =>
    rintro l Bg ys x W K ⟨v, hj⟩ hg hK
    have hz := hj.far
    obtain ⟨cs, hits, _⟩ := hj.its
    have hl := hits.lt
    unfold encY
    gi_wp2
    refine hK _ _ ((KeepsOthers.alloc W _).from _) ⟨v, W.heap.size, hj.below ((Below.refl _ _).alloc (Nat.le_refl _) _), hg.below ((Below.refl _ _).alloc (Nat.le_refl _) _), Row.new _ _ _, by omega, by omega, fun k hk => ?_, rfl⟩
    have := own_inn hj.own k hk
    omega
  case body =>
    rintro l Bg ys x a' W ⟨v, Bx, hj, hg, hrow, hBx, hne, hvx, rfl⟩
    obtain ⟨ao, cap, hv, hy, hc1, hc2, _⟩ := hj.out
    subst hv
    have c0 : W.cell? ⟨w.heap.size, 0, none⟩ = some (.slice ao ys.length cap) := hj.lst.cell rfl
    have x0 : W.cell? ⟨Bx, 0, none⟩ = some (.int .i64 x.q) := hrow.cell rfl
    have x1 : W.cell? ⟨Bx, 1, none⟩ = some (.slice x.a x.n x.c) := hrow.cell rfl
    unfold tmY
    have HVZ : Hid (V.heap.size = w.heap.size + 3) := hVz
    have HJ : Hid (JV w s Bg ys (.slice ao ys.length cap) W) := hj
    have HG : Hid (GY w s ys x W) := hg
    have HR : Hid (Row W Bx 30 #[.int .i64 x.q, .slice x.a x.n x.c]) := hrow
    have HV : Hid (∀ k ∈ blk (.slice ao ys.length cap), k ≠ Bx) := hvx
    have hq : 0 ≤ x.q ∧ x.q ≤ 4294967295 := by
      have := (grE_zero.1 (rd_gr hg.1).1).2
      rw [hg.2.1]; omega
    by_cases hk : ys.length = 0
    case pos =>
      have HN : Hid (nx (lq ys) (bh s ys) = true) := show _ = _ by
        have : ys = [] := List.length_eq_zero_iff.1 hk
        subst this
        exact nx_none hg.1
      have hd0 : decide (0 < ys.length) = false := by simp [hk]
      clear hj hg hrow hvx hk hq hVz hB0 r0 r1 r2 hy
      gi_wp2_with fail
      refine region_round (by kernel_rfl) (by kernel_rfl) (by kernel_rfl) ?_
      repeat (quiet_step_in (fail))
      refine wpQuietIn_nil ?_
      intro _ hw'
      obtain ⟨nq, hw''⟩ := hw'
      subst hw''
      obtain ⟨U, hU⟩ : ∃ U, U = W.drewN nq := ⟨_, rfl⟩
      rw [← hU]
      have bU : Below W.heap.size W U := by rw [hU]; exact below_drewN (Below.refl _ _) nq
      have kU : KeepsFrom V.heap.size W U := ⟨bU.size, fun k o _ h _ => by rw [hU]; exact h⟩
      have hj := HJ.out.below bU
      have hg := HG.out.below bU
      have hrow : Row U Bx 30 #[.int .i64 x.q, .slice x.a x.n x.c] := by rw [hU]; exact HR.out
      have HJ2 : Hid (JV w s Bg ys (.slice ao ys.length cap) U) := hj
      have HG2 : Hid (GY w s ys x U) := hg
      have HO : Hid (U.ownsRow (w.heap.size + 5) 30 2 (.slice ao ys.length cap) ys.length (ycs ys)) := hj.own
      have HU : Hid (KeepsFrom V.heap.size W U) := kU
      have HS : Hid (w.heap.size + 5 ≤ U.heap.size) := show _ ≤ _ from by have := hrow.lt; omega
      have HL : Hid (ys.length ≤ 1073741824) := show _ ≤ _ from by have := hj.chn.len; omega
      obtain ⟨i0, HI, HZ0, HZ1, HZ2⟩ : ∃ i0, Hid (Try.prog.info? 30 = some i0) ∧ Hid (i0.zero = some (.agg #[.int .i64 0, .slice none 0 0])) ∧ Hid (i0.size = 2) ∧ Hid (i0.bytes = 32) := info_parts3 yinfo
      have d0 : U.cell? ⟨w.heap.size, 0, none⟩ = some (.slice ao ys.length cap) := hj.lst.cell rfl
      have d1 : U.cell? ⟨Bx, 0, none⟩ = some (.int .i64 x.q) := hrow.cell rfl
      have d2 : U.cell? ⟨Bx, 1, none⟩ = some (.slice x.a x.n x.c) := hrow.cell rfl
      have HD1 : Hid (_) := d1
      have HD2 : Hid (_) := d2
      clear hj hg hrow hU bU kU c0 x0 x1 HJ HG HR HV
      gi_wp2_with (gi_at_builtin; refine wpListIn_append_at _ rfl _ _ 47 rfl (w.heap.size + 5) 30 i0 (.agg #[.int .i64 0, .slice none 0 0]) 2 32 Try.underlying47 HI.out HZ0.out HZ1.out HZ2.out rfl (by decide) _ _ _ rfl (World.ownsRow.alloc HO.out _) ⟨U.heap.size, 0, none⟩ 1 1 [.int .i64 x.q, .slice x.a x.n x.c] rfl rfl (ycell_new _ _ _ _) (by simp [Value.oneCell']) (by have := HL.out; unfold maxLen; omega) (by have := HL.out; omega) (by have := HS.out; simp; omega) ?_; intro v' w1 hown' hfr hfresh; obtain ⟨g', cap', rfl⟩ := ownsRow_succ hown'; obtain ⟨z0, z1, z2, z3, HAP⟩ := HJ2.out.app2 HG2.out HN.out hown' hfr hfresh; clear hown' hfr hfresh)
      exact ⟨HU.out.trans (by rw [HVZ.out]; exact HAP.out.1), HAP.out.2⟩
    obtain ⟨b, off, rfl, hcell⟩ := isY_at hy (by omega)
    obtain ⟨j, hjj⟩ : ∃ j, j = ys.length - 1 := ⟨_, rfl⟩
    obtain ⟨y, hyy⟩ : ∃ y, y = ys.getD j yi0 := ⟨_, rfl⟩
    have hjl : j < ys.length := by omega
    have e0 : W.cell? ⟨b, off + j * 2, none⟩ = some (.int .i64 y.q) := by rw [hyy]; exact (hcell W (Below.refl _ _) j hjl).1
    have hyq := hj.num y (by rw [hyy]; exact yget_mem hjl)
    have hlq : lq ys = some y.q := by
      rw [lq, List.getLast?_eq_getElem?, ← hjj, hyy, List.getElem?_eq_getElem hjl]
      simp [List.getD, hjl]
    have hnx : nx (lq ys) (bh s ys) = decide (x.q = y.q + 1) := by rw [hlq, nx_some hg.1, hg.2.1]
    have hd0 : decide (0 < ys.length) = true := by simp; omega
    have hw1 : IntKind.i64.wrap (((ys.length : Nat) : Int) - 1) = (j : Int) := by
      have := hj.chn.len
      rw [IntKind.wrap_i64]; omega
    have hw2 : IntKind.i64.wrap (y.q + 1) = y.q + 1 := by rw [IntKind.wrap_i64]; omega
    have HNX : Hid (_) := hnx
    clear hcell hjj hyy hlq hnx hyq
    by_cases hf : x.q = y.q + 1
    case pos =>
      have HN : Hid (nx (lq ys) (bh s ys) = true) := show _ = _ by rw [HNX.out, hf]; simp
      have hne : (x.q != y.q + 1) = false := by rw [hf]; simp
      clear hj hg hrow hvx hk hq hVz hB0 r0 r1 r2 hy hf HNX
      gi_wp2_with fail
      refine region_round (by kernel_rfl) (by kernel_rfl) (by kernel_rfl) ?_
      repeat (quiet_step_in (fail))
      refine wpQuietIn_nil ?_
      intro _ hw'
      obtain ⟨nq, hw''⟩ := hw'
      subst hw''
      obtain ⟨U, hU⟩ : ∃ U, U = W.drewN nq := ⟨_, rfl⟩
      rw [← hU]
      have bU : Below W.heap.size W U := by rw [hU]; exact below_drewN (Below.refl _ _) nq
      have kU : KeepsFrom V.heap.size W U := ⟨bU.size, fun k o _ h _ => by rw [hU]; exact h⟩
      have hj := HJ.out.below bU
      have hg := HG.out.below bU
      have hrow : Row U Bx 30 #[.int .i64 x.q, .slice x.a x.n x.c] := by rw [hU]; exact HR.out
      have HJ2 : Hid (JV w s Bg ys (.slice (some ⟨b, off, none⟩) ys.length cap) U) := hj
      have HG2 : Hid (GY w s ys x U) := hg
      have HO : Hid (U.ownsRow (w.heap.size + 5) 30 2 (.slice (some ⟨b, off, none⟩) ys.length cap) ys.length (ycs ys)) := hj.own
      have HU : Hid (KeepsFrom V.heap.size W U) := kU
      have HS : Hid (w.heap.size + 5 ≤ U.heap.size) := show _ ≤ _ from by have := hrow.lt; omega
      have HL : Hid (ys.length ≤ 1073741824) := show _ ≤ _ from by have := hj.chn.len; omega
      obtain ⟨i0, HI, HZ0, HZ1, HZ2⟩ : ∃ i0, Hid (Try.prog.info? 30 = some i0) ∧ Hid (i0.zero = some (.agg #[.int .i64 0, .slice none 0 0])) ∧ Hid (i0.size = 2) ∧ Hid (i0.bytes = 32) := info_parts3 yinfo
      have d0 : U.cell? ⟨w.heap.size, 0, none⟩ = some (.slice (some ⟨b, off, none⟩) ys.length cap) := hj.lst.cell rfl
      have d1 : U.cell? ⟨Bx, 0, none⟩ = some (.int .i64 x.q) := hrow.cell rfl
      have d2 : U.cell? ⟨Bx, 1, none⟩ = some (.slice x.a x.n x.c) := hrow.cell rfl
      have HD1 : Hid (_) := d1
      have HD2 : Hid (_) := d2
      clear hj hg hrow hU bU kU c0 x0 x1 e0 HJ HG HR HV
      gi_wp2_with (gi_at_builtin; refine wpListIn_append_at _ rfl _ _ 47 rfl (w.heap.size + 5) 30 i0 (.agg #[.int .i64 0, .slice none 0 0]) 2 32 Try.underlying47 HI.out HZ0.out HZ1.out HZ2.out rfl (by decide) _ _ _ rfl (World.ownsRow.alloc HO.out _) ⟨U.heap.size, 0, none⟩ 1 1 [.int .i64 x.q, .slice x.a x.n x.c] rfl rfl (ycell_new _ _ _ _) (by simp [Value.oneCell']) (by have := HL.out; unfold maxLen; omega) (by have := HL.out; omega) (by have := HS.out; simp; omega) ?_; intro v' w1 hown' hfr hfresh; obtain ⟨g', cap', rfl⟩ := ownsRow_succ hown'; obtain ⟨z0, z1, z2, z3, HAP⟩ := HJ2.out.app2 HG2.out HN.out hown' hfr hfresh; clear hown' hfr hfresh)
      exact ⟨HU.out.trans (by rw [HVZ.out]; exact HAP.out.1), HAP.out.2⟩
    have HN : Hid (nx (lq ys) (bh s ys) = false) := show _ = _ by rw [HNX.out]; simp [hf]
    have hne : (x.q != y.q + 1) = true := by simp [hf]
    clear hj hg hrow hvx hk hq hVz hB0 r0 r1 r2 hy hf HNX
    gi_wp2_with fail
    refine region_round (by kernel_rfl) (by kernel_rfl) (by kernel_rfl) ?_
    repeat (quiet_step_in (fail))
    refine wpQuietIn_nil ?_
    intro _ hw'
    obtain ⟨nq, hw''⟩ := hw'
    subst hw''
    gi_wp2
    exact ⟨⟨Nat.le_refl _, fun k o _ h _ => h⟩, rfl, Bg, ys, ⟨_, HJ.out.below (below_drewN (Below.refl _ _) nq)⟩, HN.out⟩
  case done =>
    rintro D Bg ys W hD hS ⟨v, hj⟩ hK
    have hnx : nx (lq ys) (bh s ys) = false := nx_no hS
    obtain ⟨ao, cap, hv, _⟩ := hj.out
    subst hv
    have hb1 := hj.chn.len
    have HST := show Hid (scA none s = (grY ys, bh s ys)) from hj.chn.stop hnx
    have HJ : Hid (JV w s Bg ys (.slice ao ys.length cap) W) := hj
    have HK : Hid (_) := hK
    have HD : Hid (w.heap.size + 3 ≤ D) := show _ ≤ _ by omega
    have c0 : W.cell? ⟨w.heap.size, 0, none⟩ = some (.slice ao ys.length cap) := hj.lst.cell rfl
    have c1 : W.cell? ⟨w.heap.size + 1, 0, none⟩ = some (.string (bh s ys)) := hj.beh.cell rfl
    have hsub : (s.size : Int) - ((bh s ys).size : Int) = ((s.size - (bh s ys).size : Nat) : Int) := by omega
    obtain ⟨R, hR⟩ : ∃ R, R = s.size - (bh s ys).size := ⟨_, rfl⟩
    have hwr : IntKind.i64.wrap ((s.size : Int) - ((bh s ys).size : Int)) = (R : Int) := by rw [hsub, ← hR, IntKind.wrap_i64]; omega
    have HR : Hid ((R : Int) = (s.size : Int) - ((bh s ys).size : Int)) := show _ = _ by rw [hsub, hR]
    clear hj hK hD hnx hsub hR hb1 hVz hB0 r0 r1 r2
    gi_wp2
    refine wpIn_region_quiet_lit hro (by kernel_rfl) (by kernel_rfl) ?_
    repeat (quiet_step_in (fail))
    refine wpQuietIn_nil ?_
    intro _ hw'
    obtain ⟨nq, hw''⟩ := hw'
    subst hw''
    gi_wp2
    have hK2 : (W.drewN nq).heap[D]? = some (.deferred (some [])) := HK.out
    have hj2 : JV w s Bg ys (.slice ao ys.length cap) (W.drewN nq) := HJ.out.below (below_drewN (Below.refl _ _) nq)
    have hj3 := JV.put _ _ _ (.deferred none) HD.out hK2 rfl hj2
    obtain ⟨ao', cap', hv', hy', hc', _, hcz⟩ := hj3.out
    injection hv' with e1 e2 e3
    subst e1 e3
    refine ⟨by simp, .inl ⟨_, _, rfl, run_takeDeferred hK2, ?_⟩⟩
    exact ⟨_, results_tmp2 rfl _ _ _, ao, cap, ys, by rw [HST.out, ← HR.out]; rfl, by rw [HST.out], hy', hc', hcz, hj3.bel⟩
  case stop =>
    rintro D c W hD ⟨rfl, Bg, ys, ⟨v, hj⟩, hnx⟩ hK
    obtain ⟨ao, cap, hv, _⟩ := hj.out
    subst hv
    have hb1 := hj.chn.len
    have HST := show Hid (scA none s = (grY ys, bh s ys)) from hj.chn.stop hnx
    have HJ : Hid (JV w s Bg ys (.slice ao ys.length cap) W) := hj
    have HK : Hid (_) := hK
    have HD : Hid (w.heap.size + 3 ≤ D) := show _ ≤ _ by omega
    have c0 : W.cell? ⟨w.heap.size, 0, none⟩ = some (.slice ao ys.length cap) := hj.lst.cell rfl
    have c1 : W.cell? ⟨w.heap.size + 1, 0, none⟩ = some (.string (bh s ys)) := hj.beh.cell rfl
    have hsub : (s.size : Int) - ((bh s ys).size : Int) = ((s.size - (bh s ys).size : Nat) : Int) := by omega
    obtain ⟨R, hR⟩ : ∃ R, R = s.size - (bh s ys).size := ⟨_, rfl⟩
    have hwr : IntKind.i64.wrap ((s.size : Int) - ((bh s ys).size : Int)) = (R : Int) := by rw [hsub, ← hR, IntKind.wrap_i64]; omega
    have HR : Hid ((R : Int) = (s.size : Int) - ((bh s ys).size : Int)) := show _ = _ by rw [hsub, hR]
    clear hj hK hD hnx hsub hR hb1 hVz hB0 r0 r1 r2
    gi_wp2
    refine wpIn_region_quiet_lit hro (by kernel_rfl) (by kernel_rfl) ?_
    repeat (quiet_step_in (fail))
    refine wpQuietIn_nil ?_
    intro _ hw'
    obtain ⟨nq, hw''⟩ := hw'
    subst hw''
    gi_wp2
    have hK2 : (W.drewN nq).heap[D]? = some (.deferred (some [])) := HK.out
    have hj2 : JV w s Bg ys (.slice ao ys.length cap) (W.drewN nq) := HJ.out.below (below_drewN (Below.refl _ _) nq)
    have hj3 := JV.put _ _ _ (.deferred none) HD.out hK2 rfl hj2
    obtain ⟨ao', cap', hv', hy', hc', _, hcz⟩ := hj3.out
    injection hv' with e1 e2 e3
    subst e1 e3
    refine ⟨by simp, .inl ⟨_, _, rfl, run_takeDeferred hK2, ?_⟩⟩
    exact ⟨_, results_tmp2 rfl _ _ _, ao, cap, ys, by rw [HST.out, ← HR.out]; rfl, by rw [HST.out], hy', hc', hcz, hj3.bel⟩
end Go.Proofs.Ytkjhjpaacpcnmaa

/- The document's Check of changes. -/
namespace Go.Proofs.Ytkjhjpaacpcnmaa
open Go.RowKit Vecm Opened Wirem Txt Frm Blkm Grpm
open Crcm (bys)
set_option linter.unusedVariables false

set_option maxRecDepth 100000 in
set_option maxHeartbeats 4000000 in
theorem frefcheck_any {w : World} {a : Option Addr} {len cap : Nat} {l : List Ch} (h : IsG w a len l) (hz : ChZ l) :
    Calls Try.prog 21 #[.slice a len cap] w fun e w' => e = .returned (.int .i64 (ckE l)) ∧ Below w.heap.size w w' := by
  have hl := h.1
  by_cases h1 : 64 < len
  · rw [ckE_many (by omega)]
    have h1' : (64 : Int) < (len : Int) := by omega
    clear h hl h1 hz
    go_enter Try.func21, Try.ntmps21
    go_wp2
    go_ret
    exact ⟨rfl, Below.refl _ _⟩
  have h1' : ¬ (64 : Int) < (len : Int) := by omega
  have HH : Hid (IsG w a len l) := h
  have HK : Hid (∀ k W, k < len → Calls Try.prog 40 #[.string (l.getD k ch0).key] W fun e w' => e = .returned (.int .i64 (kchE (l.getD k ch0).key)) ∧ Below W.heap.size W w') := show ∀ k W, _ → _ from fun k W hk => krefcheck_any _ W (hz _ (gget_mem (l := l) (k := k) (by omega))).1
  have HS : Hid (∀ k, k < len → ckL (l.take k) = 0 → (chE (l.getD k ch0) ≠ 0 → ckE l = chE (l.getD k ch0)) ∧ (chE (l.getD k ch0) = 0 → ckL (l.take (k + 1)) = 0)) := show ∀ k, _ → _ → _ from fun k hk h0 => by
    obtain ⟨q1, q2⟩ := ckL_at (l := l) (k := k) (by omega) h0
    exact ⟨fun hn => by rw [ckE_bad (by omega) (by rw [q1 hn]; exact hn), q1 hn], q2⟩
  have HN : Hid (len = 0 → ckE l = 1) := show _ → _ from fun e => ckE_nil (by omega)
  have HY : Hid (len ≠ 0 → ckL (l.take len) = 0 → ckE l = 0) := show _ → _ → _ from fun e e2 => ckE_yes (by omega) (by rw [List.take_of_length_le (by omega)] at e2; exact e2) (by omega)
  generalize ckE l = X at HS HN HY ⊢
  clear h hl hz
  go_enter Try.func21, Try.ntmps21
  go_wp2
  go_loopw [3] (fun i wr => ∃ k : Nat, k ≤ len ∧ i = .int .i64 (k : Int) ∧ ckL (l.take k) = 0 ∧ Below w.heap.size w wr) (fun i _ => len - (RowKit.intOf i).toNat)
  case atStart => exact ⟨0, by omega, rfl, rfl, Below.refl _ _⟩
  case round =>
    obtain ⟨k, hk, rfl, hzk, hbel⟩ := hrel
    by_cases hlt : k < len
    · obtain ⟨b, off, rfl, hcell⟩ := isG_at HH.out (by omega)
      obtain ⟨hd0, hd1, hd2⟩ := hcell wr hbel k hlt
      obtain ⟨s1, s2⟩ := HS.out k hlt hzk
      have HCE : Hid (∀ W, Below w.heap.size w W → W.cell? ⟨b, off + k * 3 + 1, none⟩ = some (.string (l.getD k ch0).val) ∧ W.cell? ⟨b, off + k * 3 + 2, none⟩ = some (.bool (l.getD k ch0).gone)) := show ∀ W, _ → _ from fun W hW => (hcell W hW k hlt).2
      have C1 := show Hid (∀ W, _) from fun W => HK.out k W hlt
      have B1 : Hid (kchE (l.getD k ch0).key ≠ 0 → X = kchE (l.getD k ch0).key) := show _ → _ from fun hn => by rw [s1 (by rw [chE_key hn]; exact hn), chE_key hn]
      have B2 : Hid (kchE (l.getD k ch0).key = 0 → 1024 < (l.getD k ch0).val.size → X = 12) := show _ → _ → _ from fun h0 hn => by rw [s1 (by rw [chE_big h0 hn]; decide), chE_big h0 hn]
      have B3 : Hid (kchE (l.getD k ch0).key = 0 → ¬ 1024 < (l.getD k ch0).val.size → ((l.getD k ch0).gone = true ∧ (l.getD k ch0).val.size ≠ 0) → X = 1) := show _ → _ → _ → _ from fun h0 hn hg => by rw [s1 (by rw [chE_arg h0 hn hg]; decide), chE_arg h0 hn hg]
      have B4 : Hid (kchE (l.getD k ch0).key = 0 → ¬ 1024 < (l.getD k ch0).val.size → ¬ ((l.getD k ch0).gone = true ∧ (l.getD k ch0).val.size ≠ 0) → ckL (l.take (k + 1)) = 0) := show _ → _ → _ → _ from fun h0 hn hg => s2 (chE_yes h0 hn hg)
      have HB : Hid (Below w.heap.size w wr) := hbel
      clear s1 s2 hcell hbel hzk HK HS hd1 hd2
      obtain ⟨c, hc⟩ : ∃ c, c = l.getD k ch0 := ⟨_, rfl⟩
      rw [← hc] at hd0 C1 B1 B2 B3 B4 HCE
      obtain ⟨key, val, gone⟩ := c
      dsimp only at hd0 C1 B1 B2 B3 B4 HCE
      generalize kchE key = E at C1 B1 B2 B3 B4
      clear hc
      go_wp2_with fail
      refine Calls.mono (C1.out _) ?_
      rintro e w1 ⟨rfl, hb⟩
      have HB1 : Hid (Below w.heap.size w w1) := HB.out.trans (hb.mono HB.out.size)
      obtain ⟨c1, c2⟩ := HCE.out w1 HB1.out
      clear hb hd0 C1 HB HCE
      by_cases he : E = 0
      case neg =>
        have HX := show Hid (_) from B1.out he
        have hne : (E != 0) = true := by rw [bne_iff_ne]; exact he
        clear he
        go_wp2
        go_ret
        exact ⟨by rw [HX.out]; rfl, HB1.out⟩
      subst he
      by_cases h2 : 1024 < val.size
      · have HX := show Hid (_) from B2.out rfl h2
        have h2' : (1024 : Int) < (val.size : Int) := by omega
        clear h2
        go_wp2
        go_ret
        exact ⟨by rw [HX.out]; rfl, HB1.out⟩
      have h2' : ¬ (1024 : Int) < (val.size : Int) := by omega
      cases gone with
      | false =>
        have HZ := show Hid (_) from B4.out rfl h2 (fun e => by cases e.1)
        clear h2
        go_wp2
        go_roundw
        case rel => exact ⟨k + 1, by omega, by go_num, HZ.out, HB1.out⟩
        case measure => simp [RowKit.intOf]; omega
      | true =>
        by_cases h3 : val.size = 0
        · have HZ := show Hid (_) from B4.out rfl h2 (fun e => e.2 h3)
          obtain rfl := str_none h3
          clear h2 h3
          go_wp2
          go_roundw
          case rel => exact ⟨k + 1, by omega, by go_num, HZ.out, HB1.out⟩
          case measure => simp [RowKit.intOf]; omega
        · have HX := show Hid (_) from B3.out rfl h2 ⟨rfl, h3⟩
          have h4 := str_some h3
          clear h2 h3
          go_wp2
          go_ret
          exact ⟨by rw [HX.out]; rfl, HB1.out⟩
    · obtain rfl : k = len := by omega
      have HB : Hid (Below w.heap.size w wr) := hbel
      by_cases h0 : k = 0
      · have HX := show Hid (_) from HN.out h0
        subst h0
        clear hbel
        go_wp2
        go_ret
        exact ⟨by rw [HX.out]; rfl, HB.out⟩
      · have HX := show Hid (_) from HY.out h0 hzk
        have hne : ¬ ((k : Int) = 0) := by omega
        have hpos : 0 < k := by omega
        clear hbel h0
        go_wp2
        go_ret
        exact ⟨by rw [HX.out]; rfl, HB.out⟩
end Go.Proofs.Ytkjhjpaacpcnmaa
