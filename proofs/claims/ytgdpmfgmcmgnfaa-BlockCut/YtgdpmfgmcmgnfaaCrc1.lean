/- What crc's functions of the program and the document's own answers return. -/
import Derived.Test.YtgdpmfgmcmgnfaaWld
import Derived.Test.YtgdpmfgmcmgnfaaCrcm
namespace Go.Proofs.Ytgdpmfgmcmgnfaa
open Go.RowKit
set_option linter.unusedVariables false

/-- A row of n numbers of 32 bits. -/
def urow (n : Nat) (f : Nat → Nat) : Array Value := ((List.range n).map fun i => Value.int .u32 (f i : Nat)).toArray
theorem urow_size (n : Nat) (f : Nat → Nat) : (urow n f).size = n := by simp [urow]
theorem urow_get {n i : Nat} (f : Nat → Nat) (h : i < n) : (urow n f)[i]? = some (Value.int .u32 (f i : Nat)) := by simp [urow, h]
theorem urow_none {n i : Nat} (f : Nat → Nat) (h : ¬ i < n) : (urow n f)[i]? = none := by simp [urow]; omega
theorem urow_ext {n : Nat} {f g : Nat → Nat} (h : ∀ i, i < n → f i = g i) : urow n f = urow n g := by
  apply Array.ext_getElem?
  intro i
  by_cases hi : i < n
  · rw [urow_get f hi, urow_get g hi, h i hi]
  · rw [urow_none f hi, urow_none g hi]
theorem urow_set {n k : Nat} (f : Nat → Nat) (v : Nat) (h : k < n) : (urow n f).setIfInBounds k (.int .u32 (v : Nat)) = urow n (fun i => if i = k then v else f i) := by
  apply Array.ext_getElem?
  intro i
  rw [Array.getElem?_setIfInBounds]
  by_cases hi : i < n
  · rw [urow_get f hi, urow_get (fun i => if i = k then v else f i) hi]
    by_cases e : k = i
    · subst e; simp [urow_size, h]
    · rw [if_neg e, if_neg (fun x => e x.symm)]
  · rw [urow_none f hi, urow_none (fun i => if i = k then v else f i) hi, if_neg]; omega
theorem urow_one (n : Nat) (f : Nat → Nat) : (urow n f).all (·.oneCell') = true := by
  rw [Array.all_eq_true_iff_forall_mem]; intro v hv
  simp [urow] at hv
  obtain ⟨a, _, rfl⟩ := hv
  rfl
/-- The table behind k rounds. -/
def hrow (k : Nat) : Array Value := urow 16 (fun i => if i < k then Crcm.hk 4 i else 0)
def z16 : Array Value := urow 16 (fun _ => 0)
theorem hrow0 : z16 = hrow 0 := urow_ext fun i _ => by simp
theorem hrow_size (k : Nat) : (hrow k).size = 16 := urow_size _ _
theorem hrow_set (k : Nat) (h : k < 16) : (hrow k).setIfInBounds k (.int .u32 (Crcm.hk 4 k : Nat)) = hrow (k + 1) := by
  unfold hrow
  rw [urow_set _ _ h]
  refine urow_ext fun i _ => ?_
  by_cases e : i = k
  · subst e; rw [if_pos rfl, if_pos (by omega)]
  · rw [if_neg e]
    by_cases l : i < k
    · rw [if_pos l, if_pos (by omega)]
    · rw [if_neg l, if_neg (by omega)]

theorem zero16 (w : World) : Sem.run Try.prog (zeroValue 72) w = .ok (.agg z16) w := by kernel_rfl

theorem u32_and1 (x : Nat) (h : x < 4294967296) : bits BinOp.and IntKind.u32 (x : Int) 1 = ((x % 2 : Nat) : Int) := by
  have := u32_and_nat x 1 h (by omega)
  rw [nat_mask1] at this
  exact this
theorem u32_and15 (x : Nat) (h : x < 4294967296) : bits BinOp.and IntKind.u32 (x : Int) 15 = ((x % 16 : Nat) : Int) := by
  have := u32_and_nat x 15 h (by omega)
  rw [nat_mask4] at this
  exact this

set_option maxHeartbeats 400000 in
theorem halved_any (x : Nat) (w : World) (h : x < 4294967296) :
    Calls Try.prog 41 #[.int .u32 (x : Int)] w fun e w' => e = .returned (.int .u32 (Crcm.half x : Nat)) ∧ w' = w := by
  have ha := u32_and1 x h
  have hxo := u32_xor_nat (x / 2) 2197175160 (by omega) (by omega)
  by_cases hb : x % 2 = 1
  · have hb' : (bits BinOp.and IntKind.u32 (x : Int) 1 == 1) = true := by rw [ha, hb]; rfl
    have H : Hid (Crcm.half x = (x / 2) ^^^ 2197175160) := show _ = _ by rw [Crcm.half, if_pos hb]
    have HX : Hid (_) := hxo
    clear ha hb hxo
    go_enter Try.func41, Try.ntmps41
    go_wp2
    go_ret
    exact ⟨ret_int (by rw [H.out, ← HX.out]; rfl), rfl⟩
  · have hb' : (bits BinOp.and IntKind.u32 (x : Int) 1 == 1) = false := by rw [ha, show x % 2 = 0 by omega]; rfl
    have H : Hid (Crcm.half x = x / 2) := show _ = _ by rw [Crcm.half, if_neg hb]
    clear ha hb hxo
    go_enter Try.func41, Try.ntmps41
    go_wp2
    go_ret
    exact ⟨ret_int (by rw [H.out]; rfl), rfl⟩

set_option maxRecDepth 100000 in
set_option maxHeartbeats 400000 in
theorem halves_any (w : World) :
    Calls Try.prog 40 #[] w fun e w' => e = .returned (.agg (hrow 16)) ∧ Below w.heap.size w w' := by
  have hz := zero16
  go_enter Try.func40, Try.ntmps40
  go_wp2
  go_loopw [4] (fun i wr => ∃ k : Nat, k ≤ 16 ∧ i = .int .i64 k ∧ wr = (w.alloc (.cells z16 72)).alloc (.cells (hrow k) 72)) (fun i _ => 16 - (intOf i).toNat)
  case atStart => exact ⟨0, by omega, rfl, by rw [hrow0]⟩
  case round =>
    obtain ⟨k, hk, rfl, rfl⟩ := hrel
    by_cases hlt : k < 16
    · have hp : (hrow k)[k]? = some (.int .u32 0) := by rw [hrow, urow_get _ hlt, if_neg (by omega)]; rfl
      have hps := hrow_size k
      have hp2 := hrow_set k hlt
      have hd : decide ((k : Int) < 16) = true := decide_eq_true (by omega)
      go_wp2
      go_loopw [3, 9] (fun x i wr => ∃ (y q : Nat), wr = (w.alloc (.cells z16 72)).alloc (.cells (hrow k) 72) ∧ q ≤ 4 ∧ x = .int .u32 (y : Nat) ∧ i = .int .i64 q ∧ y < 4294967296 ∧ Crcm.hk (4 - q) y = Crcm.hk 4 k) (fun _ i _ => 4 - (intOf i).toNat)
      case atStart => exact ⟨k, 0, rfl, by omega, rfl, rfl, by omega, rfl⟩
      case round =>
        obtain ⟨y, q, rfl, hq, rfl, rfl, hy, hi⟩ := hrel
        have HI : Hid (Crcm.hk (4 - q) y = Crcm.hk 4 k) := hi
        clear hi
        by_cases hq4 : q < 4
        · go_wp2_with fail
          refine same (halved_any _ _ hy) ?_
          go_wp2
          go_roundw
          case rel => exact ⟨Crcm.half y, q + 1, trivial, by omega, rfl, by go_num, Crcm.half_lt hy, by rw [← HI.out, show 4 - q = 4 - (q + 1) + 1 by omega]; rfl⟩
          case measure => simp [intOf]; omega
        · have e : y = Crcm.hk 4 k := by have h := HI.out; rw [show 4 - q = 0 by omega] at h; exact h
          subst e
          go_wp2
          go_roundw
          case rel => exact ⟨k + 1, by omega, by go_num, rfl⟩
          case measure => simp [intOf]; omega
    · have hk' : k = 16 := by omega
      subst hk'
      have g1 := heap_last (w.alloc (.cells z16 72)) (.cells (hrow 16) 72)
      rw [World.size_alloc] at g1
      have g0 := heap_prev w (.cells z16 72) (.cells (hrow 16) 72)
      have G1 : Hid (_) := g1
      have G0 : Hid (_) := g0
      clear g1 g0
      go_wp2_with (first
        | (refine wpList_load_row rfl 72 _ rfl (w.heap.size + 1) rfl 72 (hrow 16) (0, 0) _ G1.out Try.underlying72 rfl (by rw [hrow_size]; kernel_rfl) ?_)
        | (refine wpList_store_row rfl 72 _ _ rfl w.heap.size (hrow 16) rfl rfl 72 z16 G0.out (by rw [hrow_size]; kernel_rfl) (by rw [hrow_size]; exact urow_size _ _) (urow_one _ _) ?_))
      refine bodyPost_ret (v := .agg (hrow 16)) (results_cell_row (p := 0) (ty := 72) (by rfl) _ _ w.heap.size 72 (hrow 16) (0, 0) _ rfl (setRow_heap _ _ _ _ _ _ G0.out) Try.underlying72 rfl (by rw [hrow_size]; kernel_rfl)) rfl ⟨rfl, ?_⟩
      exact below_setRow (((Below.refl _ _).alloc (Nat.le_refl _) _).alloc (by simp) _) (Nat.le_refl _) _

theorem hrow_get (j : Nat) (h : j < 16) : (hrow 16)[j]? = some (.int .u32 (Crcm.hk 4 j : Nat)) := by
  rw [hrow, urow_get _ h, if_pos h]
/-- A step over half a byte, as the program takes it. -/
theorem nibble (x : Nat) (h : x < 4294967296) : ∃ j t y : Nat, j < 16 ∧ t = Crcm.hk 4 j ∧ y = Crcm.hk 4 x ∧ y < 4294967296 ∧
    bits BinOp.and IntKind.u32 (x : Int) 15 = (j : Int) ∧ bits BinOp.xor IntKind.u32 (t : Int) ((x : Int) / 16) = (y : Int) := by
  refine ⟨x % 16, Crcm.hk 4 (x % 16), Crcm.hk 4 x, by omega, rfl, rfl, Crcm.hk_lt 4 h, u32_and15 x h, ?_⟩
  rw [Crcm.hk4_low x]
  exact u32_xor_nat (Crcm.hk 4 (x % 16)) (x / 16) (Crcm.hk_lt 4 (by omega)) (by omega)

set_option maxRecDepth 100000 in
set_option maxHeartbeats 1000000 in
theorem more_any (sum : Nat) (s : ByteArray) (w : World) (h : sum < 4294967296) (hs : s.size ≤ 9223372036854775807) :
    Calls Try.prog 37 #[.int .u32 (sum : Int), .string s] w fun e w' => e = .returned (.int .u32 (Crcm.more sum s : Nat)) ∧ Below w.heap.size w w' := by
  have hz := zero16
  go_enter Try.func37, Try.ntmps37
  go_wp2_with fail
  refine (halves_any _).mono ?_
  rintro e w1 ⟨rfl, hb1⟩
  have G1 : Hid (_) := heap_last w1 (.cells z16 72)
  have hc : ∀ j, j < 16 → ((w1.alloc (.cells z16 72)).setRow w1.heap.size (hrow 16)).cell? ⟨w1.heap.size, j, none⟩ = some (.int .u32 (Crcm.hk 4 j : Nat)) := fun j hj => by
    rw [cell_setRow_same _ _ _ _ _ _ _ G1.out, hrow_get j hj]
  have HC : Hid (_) := hc
  have HB : Hid (Below w.heap.size w w1) := hb1
  clear hb1 hc
  have hx0 := u32_xor_nat sum 4294967295 h (by omega)
  obtain ⟨x0, hx⟩ : ∃ x, x = sum ^^^ 4294967295 := ⟨_, rfl⟩
  rw [← hx] at hx0
  have hx0 : bits BinOp.xor IntKind.u32 (sum : Int) 4294967295 = (x0 : Int) := hx0
  have HX : Hid (x0 = sum ^^^ 4294967295) := hx
  have hx0l : x0 < 4294967296 := by rw [hx]; exact Crcm.xor_lt h (by omega)
  clear hx
  go_wp2_with (refine wpList_store_row rfl 72 _ _ rfl w1.heap.size (hrow 16) rfl rfl 72 z16 G1.out (by rw [hrow_size]; kernel_rfl) (by rw [hrow_size]; exact urow_size _ _) (urow_one _ _) ?_)
  go_loop [6, 13] (fun x i => ∃ (y k : Nat), k ≤ s.size ∧ x = .int .u32 (y : Nat) ∧ i = .int .i64 k ∧ y < 4294967296 ∧ Crcm.go y ((Crcm.bys s).drop k) = Crcm.go x0 (Crcm.bys s)) (fun _ i => s.size - (intOf i).toNat)
  case atStart => exact ⟨x0, 0, by omega, rfl, rfl, hx0l, rfl⟩
  case round =>
    obtain ⟨y, k, hk, rfl, rfl, hy, hi⟩ := hrel
    have HI : Hid (Crcm.go y ((Crcm.bys s).drop k) = Crcm.go x0 (Crcm.bys s)) := hi
    clear hi hx0
    by_cases hlt : k < s.size
    · have hb := s[k].toNat_lt
      have h1 := u32_xor_nat y s[k].toNat hy (by omega)
      have HS : Hid (_) := Crcm.drop_step s k hlt y
      obtain ⟨y1, e1⟩ : ∃ z, z = y ^^^ s[k].toNat := ⟨_, rfl⟩
      have hy1 : y1 < 4294967296 := by rw [e1]; exact Crcm.xor_lt hy (by omega)
      rw [← e1] at h1 HS
      clear e1
      obtain ⟨j1, t1, y2, hj1, ht1, e2, hy2, n1, n2⟩ := nibble y1 hy1
      obtain ⟨j2, t2, y3, hj2, ht2, e3, hy3, n3, n4⟩ := nibble y2 hy2
      have c1 := HC.out j1 hj1
      have c2 := HC.out j2 hj2
      rw [← ht1] at c1
      rw [← ht2] at c2
      have HE : Hid (Crcm.hk 8 y1 = y3) := show _ = _ by rw [e3, e2, Crcm.hk8_two]
      clear ht1 ht2 e2 e3
      go_wp2
      go_round
      case rel => exact ⟨y3, k + 1, by omega, rfl, by go_num, hy3, by rw [← HI.out, HS.out, HE.out]⟩
      case measure => simp [intOf]; omega
    · have hk' : k = s.size := by omega
      subst hk'
      have e := HI.out
      rw [Crcm.drop_end] at e
      have HF : Hid (bits BinOp.xor IntKind.u32 (y : Int) 4294967295 = (Crcm.more sum s : Nat)) := show _ = _ by
        rw [Crcm.more, ← HX.out, ← e]; exact u32_xor_nat y 4294967295 hy (by omega)
      clear e
      go_wp2
      go_ret
      exact ⟨ret_int HF.out, below_setRow (HB.out.alloc HB.out.size _) HB.out.size _⟩

set_option maxRecDepth 100000 in
set_option maxHeartbeats 400000 in
theorem sum_any (s : ByteArray) (w : World) (hs : s.size ≤ 9223372036854775807) :
    Calls Try.prog 33 #[.string s] w fun e w' => e = .returned (.int .u32 (Crcm.more 0 s : Nat)) ∧ Below w.heap.size w w' := by
  go_enter Try.func33, Try.ntmps33
  go_wp2_with fail
  refine Calls.mono (more_any 0 s _ (by omega) hs) ?_
  rintro e w1 ⟨rfl, hb1⟩
  have HB : Hid (Below w.heap.size w w1) := hb1
  clear hb1
  go_wp2
  go_ret
  exact ⟨rfl, HB.out⟩

theorem half_up (x : Nat) (h : x < 4294967296) : ∃ y, y = Crcm.half x ∧ y < 4294967296 ∧ (x % 2 = 1 → bits BinOp.xor IntKind.u32 ((x : Int) / 2) 2197175160 = (y : Int)) ∧ (x % 2 ≠ 1 → (x : Int) / 2 = (y : Int)) := by
  refine ⟨_, rfl, Crcm.half_lt h, fun h1 => ?_, fun h1 => ?_⟩
  · rw [Crcm.half, if_pos h1]; exact u32_xor_nat (x / 2) 2197175160 (by omega) (by omega)
  · rw [Crcm.half, if_neg h1]; rfl

set_option maxRecDepth 100000 in
set_option maxHeartbeats 1000000 in
theorem refmore_any (sum : Nat) (s : ByteArray) (w : World) (h : sum < 4294967296) (hs : s.size ≤ 9223372036854775807) :
    Calls Try.prog 34 #[.int .u32 (sum : Int), .string s] w fun e w' => e = .returned (.int .u32 (Crcm.more sum s : Nat)) ∧ w' = w := by
  have hx0 := u32_xor_nat sum 4294967295 h (by omega)
  obtain ⟨x0, hx⟩ : ∃ x, x = sum ^^^ 4294967295 := ⟨_, rfl⟩
  rw [← hx] at hx0
  have hx0 : bits BinOp.xor IntKind.u32 (sum : Int) 4294967295 = (x0 : Int) := hx0
  have HX : Hid (x0 = sum ^^^ 4294967295) := hx
  have hx0l : x0 < 4294967296 := by rw [hx]; exact Crcm.xor_lt h (by omega)
  clear hx
  go_enter Try.func34, Try.ntmps34
  go_wp2
  go_loop [5, 6] (fun x i => ∃ (y k : Nat), k ≤ s.size ∧ x = .int .u32 (y : Nat) ∧ i = .int .i64 k ∧ y < 4294967296 ∧ Crcm.go y ((Crcm.bys s).drop k) = Crcm.go x0 (Crcm.bys s)) (fun _ i => s.size - (intOf i).toNat)
  case atStart => exact ⟨x0, 0, by omega, rfl, rfl, hx0l, rfl⟩
  case round =>
    obtain ⟨y, k, hk, rfl, rfl, hy, hi⟩ := hrel
    have HI : Hid (Crcm.go y ((Crcm.bys s).drop k) = Crcm.go x0 (Crcm.bys s)) := hi
    clear hi hx0
    by_cases hlt : k < s.size
    · have hb := s[k].toNat_lt
      have h1 := u32_xor_nat y s[k].toNat hy (by omega)
      have HS : Hid (_) := Crcm.drop_step s k hlt y
      obtain ⟨y1, e1⟩ : ∃ z, z = y ^^^ s[k].toNat := ⟨_, rfl⟩
      have hy1 : y1 < 4294967296 := by rw [e1]; exact Crcm.xor_lt hy (by omega)
      rw [← e1] at h1 HS
      clear e1
      have hd : decide ((k : Int) < (s.size : Int)) = true := decide_eq_true (by omega)
      go_wp2
      go_loop [5, 7] (fun x i => ∃ (z q : Nat), q ≤ 8 ∧ x = .int .u32 (z : Nat) ∧ i = .int .i64 q ∧ z < 4294967296 ∧ Crcm.hk (8 - q) z = Crcm.hk 8 y1) (fun _ i => 8 - (intOf i).toNat)
      case atStart => exact ⟨y1, 0, by omega, rfl, rfl, hy1, rfl⟩
      case round =>
        obtain ⟨z, q, hq, rfl, rfl, hz, hi⟩ := hrel
        have HJ : Hid (Crcm.hk (8 - q) z = Crcm.hk 8 y1) := hi
        clear hi h1
        by_cases hq8 : q < 8
        · obtain ⟨z1, ez, hz1, o1, o2⟩ := half_up z hz
          have HZ : Hid (Crcm.hk (8 - (q + 1)) z1 = Crcm.hk 8 y1) := show _ = _ by rw [← HJ.out, show 8 - q = 8 - (q + 1) + 1 by omega, ez]; rfl
          clear ez
          by_cases ho : z % 2 = 1
          · have h2 := o1 ho
            have ho' : ((z : Int) % 2 == 1) = true := by rw [show (z : Int) % 2 = 1 by omega]; rfl
            clear o1 o2 ho
            go_wp2
            go_round
            case rel => exact ⟨z1, q + 1, by omega, rfl, by go_num, hz1, HZ.out⟩
            case measure => simp [intOf]; omega
          · have h2 := o2 ho
            have ho' : ((z : Int) % 2 == 1) = false := by rw [show (z : Int) % 2 = 0 by omega]; rfl
            clear o1 o2 ho
            go_wp2
            go_round
            case rel => exact ⟨z1, q + 1, by omega, rfl, by go_num, hz1, HZ.out⟩
            case measure => simp [intOf]; omega
        · have e : z = Crcm.hk 8 y1 := by have h := HJ.out; rw [show 8 - q = 0 by omega] at h; exact h
          have HZ : Hid (_) := e
          clear e
          go_wp2
          go_round
          case rel => exact ⟨z, k + 1, by omega, rfl, by go_num, hz, by rw [← HI.out, HS.out, HZ.out]⟩
          case measure => simp [intOf]; omega
    · have hk' : k = s.size := by omega
      subst hk'
      have e := HI.out
      rw [Crcm.drop_end] at e
      have HF : Hid (bits BinOp.xor IntKind.u32 (y : Int) 4294967295 = (Crcm.more sum s : Nat)) := show _ = _ by
        rw [Crcm.more, ← HX.out, ← e]; exact u32_xor_nat y 4294967295 hy (by omega)
      clear e
      go_wp2
      go_ret
      exact ⟨ret_int HF.out, rfl⟩

set_option maxRecDepth 100000 in
set_option maxHeartbeats 400000 in
theorem refsum_any (s : ByteArray) (w : World) (hs : s.size ≤ 9223372036854775807) :
    Calls Try.prog 25 #[.string s] w fun e w' => e = .returned (.int .u32 (Crcm.more 0 s : Nat)) ∧ w' = w := by
  go_enter Try.func25, Try.ntmps25
  go_wp2_with fail
  refine same (refmore_any 0 s _ (by omega) hs) ?_
  go_wp2
  go_ret
  exact ⟨rfl, rfl⟩

theorem live6_facts : Crcm.more 0 ⟨#[49, 50, 51, 52, 53, 54, 55, 56, 57]⟩ = 3808858755 := by decide +kernel

end Go.Proofs.Ytgdpmfgmcmgnfaa
