/- What the program's small calls on a disk return: check, checkSector, checkText, Alive, Pending, writeTo. -/
import Derived.Test.YtgdpmfgmcmgnfacDsk0
import Derived.Laws.ResultCell
namespace Go.Proofs.Ytgdpmfgmcmgnfac
open Go.RowKit Frm Diskm Opened
set_option linter.unusedVariables false

set_option maxRecDepth 100000 in
set_option maxHeartbeats 400000 in
theorem pcheck_any {w : World} {p : Nat} {fp : List Nat} {d : Dk} (h : IsP w p fp d) :
    Calls Try.prog 58 #[.pointer (some ⟨p, 0, none⟩)] w fun e w' => e = .returned (.int .i64 (goneE d)) ∧ w' = w := by
  obtain ⟨g, gc, v, l, rfl, h⟩ := h
  have hc := h.row.cell (i := 0) rfl
  clear h
  obtain ⟨secs, size, wt, gone⟩ := d
  cases gone <;>
  · go_enter Try.func58, Try.ntmps58
    go_wp2
    go_ret
    exact ⟨rfl, rfl⟩

set_option maxRecDepth 100000 in
set_option maxHeartbeats 400000 in
theorem palive_any {w : World} {p : Nat} {fp : List Nat} {d : Dk} (h : IsP w p fp d) :
    Calls Try.prog 29 #[.pointer (some ⟨p, 0, none⟩)] w fun e w' => e = .returned (.bool (!d.gone)) ∧ w' = w := by
  obtain ⟨g, gc, v, l, rfl, h⟩ := h
  have hc := h.row.cell (i := 0) rfl
  clear h
  go_enter Try.func29, Try.ntmps29
  go_wp2
  go_ret
  exact ⟨rfl, rfl⟩

set_option maxRecDepth 100000 in
set_option maxHeartbeats 400000 in
theorem ppend_any {w : World} {p : Nat} {fp : List Nat} {d : Dk} (h : IsP w p fp d) :
    Calls Try.prog 39 #[.pointer (some ⟨p, 0, none⟩)] w fun e w' => e = .returned (.int .i64 (d.wt.length : Int)) ∧ w' = w := by
  obtain ⟨g, gc, v, l, rfl, h⟩ := h
  have hc := h.row.cell (i := 3) rfl
  obtain ⟨a, c, rfl⟩ : ∃ a c, v = .slice a d.wt.length c := by
    rcases h.wt.2 with ⟨rfl, e⟩ | ⟨g', cap, cur, rfl, _⟩
    · exact ⟨none, 0, by rw [e]⟩
    · exact ⟨_, _, rfl⟩
  clear h
  go_enter Try.func39, Try.ntmps39
  go_wp2
  go_ret
  exact ⟨rfl, rfl⟩

/-- Is there a sector n? -/
def secE (d : Dk) (n : Int) : Int := chk d n 0

set_option maxRecDepth 100000 in
set_option maxHeartbeats 400000 in
theorem psec_any {w : World} {p : Nat} {fp : List Nat} {d : Dk} (h : IsP w p fp d) (n : Int) :
    Calls Try.prog 54 #[.pointer (some ⟨p, 0, none⟩), .int .i64 n] w fun e w' => e = .returned (.int .i64 (secE d n)) ∧ w' = w := by
  have HK : Hid (_) := pcheck_any h
  obtain ⟨g, gc, v, l, rfl, h⟩ := h
  have hc := h.row.cell (i := 2) rfl
  clear h
  obtain ⟨secs, size, wt, gone⟩ := d
  cases gone
  · by_cases h1 : n < 0
    · have HE : Hid (secE ⟨secs, size, wt, false⟩ n = 1) := show _ = _ by simp [secE, chk, h1]
      rw [HE.out]
      go_enter Try.func54, Try.ntmps54
      go_wp2_with fail
      refine same HK.out ?_
      go_wp2
      go_ret
      exact ⟨rfl, rfl⟩
    · by_cases h2 : (secs.length : Int) ≤ n
      · have HE : Hid (secE ⟨secs, size, wt, false⟩ n = 1) := show _ = _ by simp [secE, chk, h1, h2]
        rw [HE.out]
        go_enter Try.func54, Try.ntmps54
        go_wp2_with fail
        refine same HK.out ?_
        go_wp2
        go_ret
        exact ⟨rfl, rfl⟩
      · have HE : Hid (secE ⟨secs, size, wt, false⟩ n = 0) := show _ = _ by simp [secE, chk, h1, h2]
        rw [HE.out]
        go_enter Try.func54, Try.ntmps54
        go_wp2_with fail
        refine same HK.out ?_
        go_wp2
        go_ret
        exact ⟨rfl, rfl⟩
  · go_enter Try.func54, Try.ntmps54
    go_wp2_with fail
    refine same HK.out ?_
    go_wp2
    go_ret
    exact ⟨rfl, rfl⟩

theorem chk_sec {d : Dk} {n : Int} (h : secE d n = 0) (z : Nat) : chk d n z = if d.size < z then 12 else 0 := by
  unfold secE chk at h
  unfold chk
  by_cases a : d.gone = true
  · rw [if_pos a] at h; simp at h
  · rw [if_neg a] at h ⊢
    by_cases b : n < 0 ∨ (d.secs.length : Int) ≤ n
    · rw [if_pos b] at h; simp at h
    · rw [if_neg b]
theorem chk_not {d : Dk} {n : Int} (h : secE d n ≠ 0) (z : Nat) : chk d n z = secE d n := by
  unfold secE at h ⊢
  unfold chk at h ⊢
  by_cases a : d.gone = true
  · rw [if_pos a, if_pos a]
  · rw [if_neg a] at h ⊢
    by_cases b : n < 0 ∨ (d.secs.length : Int) ≤ n
    · rw [if_pos b, if_neg a, if_pos b]
    · rw [if_neg b] at h; simp at h

set_option maxRecDepth 100000 in
set_option maxHeartbeats 400000 in
theorem ptext_any {w : World} {p : Nat} {fp : List Nat} {d : Dk} (h : IsP w p fp d) (n : Int) (s : ByteArray) (hs : s.size ≤ 9223372036854775807) :
    Calls Try.prog 57 #[.pointer (some ⟨p, 0, none⟩), .int .i64 n, .string s] w fun e w' => e = .returned (.int .i64 (chk d n s.size)) ∧ w' = w := by
  have HK : Hid (_) := psec_any h n
  obtain ⟨g, gc, v, l, rfl, h⟩ := h
  have hc : w.cell? ⟨p, 1, none⟩ = some (.int .i64 (d.size : Int)) := h.row.cell rfl
  clear h
  by_cases h0 : secE d n = 0
  · rw [h0] at HK
    rw [chk_sec h0]
    clear h0
    by_cases h1 : d.size < s.size
    · rw [if_pos h1]
      go_enter Try.func57, Try.ntmps57
      go_wp2_with fail
      refine same HK.out ?_
      go_wp2
      go_ret
      exact ⟨rfl, rfl⟩
    · rw [if_neg h1]
      go_enter Try.func57, Try.ntmps57
      go_wp2_with fail
      refine same HK.out ?_
      go_wp2
      go_ret
      exact ⟨rfl, rfl⟩
  · rw [chk_not h0]
    obtain ⟨E, hE⟩ : ∃ E, E = secE d n := ⟨_, rfl⟩
    rw [← hE] at HK h0 ⊢
    have hne : (E != 0) = true := by simpa using h0
    clear hE h0
    go_enter Try.func57, Try.ntmps57
    go_wp2_with fail
    refine same HK.out ?_
    go_wp2
    go_ret
    exact ⟨rfl, rfl⟩

/-- What writeTo tells. -/
def toV (p : Wr) (n : Int) : Value := if (p.n : Int) = n then .tuple #[.agg #[.int .i64 (p.n : Int), .string p.s], .bool true] else .tuple #[.agg #[.int .i64 0, .string ⟨#[]⟩], .bool false]

theorem tassert (v : Value) (w : World) : Sem.run Try.prog (Instr.typeAssert (.iface 75 v) 79 75 true) w = .ok (.tuple #[v, .bool true]) w := by first | rfl | kernel_rfl

set_option maxRecDepth 100000 in
set_option maxHeartbeats 400000 in
theorem pto_any (q : Wr) (n : Int) (w : World) :
    Calls Try.prog 55 #[wtv q, .int .i64 n] w fun e w' => e = .returned (toV q n) ∧ Below w.heap.size w w' := by
  unfold toV wtv
  have hta := tassert
  obtain ⟨m, s⟩ := q
  have hb2 : ∀ a b : Obj, Below w.heap.size w ((w.alloc a).alloc b) := fun a b => ((Below.refl _ _).alloc (Nat.le_refl _) _).alloc (by simp) _
  have HB : Hid (∀ a b : Obj, Below w.heap.size w ((w.alloc a).alloc b)) := hb2
  clear hb2
  by_cases h : (m : Int) = n
  · rw [if_pos h]
    subst h
    go_enter Try.func55, Try.ntmps55
    go_wp2
    (try simp only [Exit.inBlock, Exit.then])
    refine bodyPost_ret (v := .tuple #[.agg #[.int .i64 (m : Int), .string s], .bool true]) ?_ rfl ⟨rfl, HB.out _ _⟩
    rw [results_cell_tmp rfl]
    go_simp
  · rw [if_neg h]
    have hd : ((m : Int) == n) = false := by simpa using h
    go_enter Try.func55, Try.ntmps55
    go_wp2
    (try simp only [Exit.inBlock, Exit.then])
    refine bodyPost_ret (v := .tuple #[.agg #[.int .i64 0, .string ⟨#[]⟩], .bool false]) ?_ rfl ⟨rfl, HB.out _ _⟩
    rw [results_cell_tmp rfl]
    go_simp
end Go.Proofs.Ytgdpmfgmcmgnfac
