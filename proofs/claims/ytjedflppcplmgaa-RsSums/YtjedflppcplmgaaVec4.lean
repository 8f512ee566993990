/- What the document's own answers for vec (Scale, Add, Zero, Dot) return. -/
import Derived.Test.YtjedflppcplmgaaVec2
import Derived.Deep.RegionLawGrows
namespace Go.Proofs.Ytjedflppcplmgaa
open Go.RowKit Vecm
set_option linter.unusedVariables false

/-- append to a row of the call's own, or to none, as one step of a region whose order is drawn. -/
theorem step_append_own {P : Program} {ops : Array Oper} {o : Oper} {a : Act} {w : World} {K : Act → World → Prop} {Q : Exit → Act → World → Prop} {E : Prop}
    (hg : o.guard = none) (s x : Operand) (t : TypeId) (hop : o.op = Op.call { callee := Callee.builtin Builtin.append, args := #[s, x], argTypes := #[t, t] })
    (base : Nat) (e : TypeId) (i : TypeInfo) (z : Value) (size bytes : Nat) (h1 : P.underlying t = some (.slice e)) (h2 : P.info? e = some i) (h3 : i.zero = some z) (h4 : i.size = size) (h5 : i.bytes = bytes) (h6 : z.cells.size = size) (h7 : 0 < size)
    (v : Value) (n : Nat) (xs : List Value) (hs : a.eval s = v) (hown : w.ownsRow base e size v n xs)
    (ad : Addr) (m c : Nat) (news : List Value) (hx : a.eval x = .slice (some ad) m c) (hn : news.length = m * size) (hc : ∀ j u, news[j]? = some u → w.cell? (ad.add j) = some u) (h1c : ∀ u ∈ news, u.oneCell' = true)
    (b1 : n + m ≤ maxLen) (b2 : (n + m) * bytes ≤ 140737488355328) (hbase : base ≤ w.heap.size)
    (hK : ∀ v' w', w'.ownsRow base e size v' (n + m) (xs ++ news) → w.grownBy w' v.ownBlock → K (a.put o.dst v') w') :
    if Region.wanted o (yielded ops a.tmps) = true then Oper.wp P o a w K Q else E := by
  have hw : Region.wanted o (yielded ops a.tmps) = true := by simp [Region.wanted, hg]
  rw [if_pos hw]
  obtain ⟨v', w', hrun, r1, r2, _⟩ := run_append_own (P := P) w base t o.type e i z size bytes h1 h2 h3 h4 h5 h6 h7 v n xs hown ad m c news hn hc h1c b1 b2 hbase
  unfold Oper.wp
  simp [execOp, hop, resolve, invoke, builtin, hs, hx, hrun, Result.andThen]
  exact hK v' w' r1 r2

def bcells (l : List Int) : List Value := l.map (Value.int .u8)
theorem bcells_length (l : List Int) : (bcells l).length = l.length := by simp [bcells]
theorem bcells_snoc (l : List Int) (x : Int) : bcells l ++ [Value.int .u8 x] = bcells (l ++ [x]) := by simp [bcells]
theorem take_snoc {l : List Int} {k : Nat} (h : k < l.length) : l.take k ++ [l.getD k 0] = l.take (k + 1) := by
  rw [List.take_succ_eq_append_getElem h]; simp [List.getD, h]

/-- string(out), out a row of the call's own, or none. -/
theorem own_string (w : World) (base : Nat) (v : Value) (xs : List Int) (h : w.ownsRow base 5 1 v xs.length (bcells xs)) :
    Sem.run Try.prog (convert 49 9 v) w = .ok (.string (strOfNums xs)) w := by
  rcases h.2 with ⟨rfl, hn⟩ | ⟨g, cap, cur, rfl, _, hg, _, _, _, htake⟩
  · have hx : xs = [] := List.length_eq_zero_iff.1 hn
    subst hx
    exact run_convert_bytes_nil (P := Try.prog) w 49 5 Try.underlying49 Try.underlying5 0 0 9 Try.underlying9
  · refine to_string w g cur (0, 0) cap xs hg fun i hi => ?_
    have h1 : (cur.toList.take (xs.length * 1))[i]? = (bcells xs)[i]? := by rw [htake]
    rw [List.getElem?_take, if_pos (by omega)] at h1
    rw [← Array.getElem?_toList, h1]
    simp [bcells, List.getD, hi]

set_option maxRecDepth 100000 in
set_option maxHeartbeats 1000000 in
theorem refscale_any (s : ByteArray) (c : Int) (w : World) (hs : s.size ≤ 1073741824) (c0 : 0 ≤ c) (c1 : c ≤ 255) :
    Calls Try.prog 47 #[.string s, .int .u8 c] w fun e w' => e = .returned (.string (vscale s c)) ∧ Below w.heap.size w w' := by
  obtain ⟨i0, hi, hz0, hz1, hz2⟩ := info_parts info_u8
  have HI : Hid (_) := hi
  have HZ0 : Hid (_) := hz0
  have HZ1 : Hid (_) := hz1
  have HZ2 : Hid (_) := hz2
  clear hi hz0 hz1 hz2
  obtain ⟨L, hL⟩ : ∃ L, L = (nums s).map fun x => Gfm.gmI x c := ⟨_, rfl⟩
  have hLl : L.length = s.size := by rw [hL, List.length_map, nums_length]
  have HLL : Hid (_) := hLl
  have HL : Hid (_) := hL
  clear hL hLl
  go_enter Try.func47, Try.ntmps47
  go_wp2
  go_loopw [5, 6] (fun v i wr => ∃ k : Nat, k ≤ s.size ∧ i = .int .i64 k ∧ wr.ownsRow w.heap.size 5 1 v k (bcells (L.take k)) ∧ Below w.heap.size w wr) (fun _ i _ => s.size - (intOf i).toNat)
  case atStart => exact ⟨0, by omega, rfl, World.ownsRow_nil _ _ _ _, Below.refl _ _⟩
  case round =>
    obtain ⟨k, hk, rfl, hown, hb⟩ := hrel
    have HO : Hid (_) := hown
    have HB : Hid (_) := hb
    clear hown hb
    by_cases hlt : k < s.size
    · have hx := s[k].toNat_lt
      have HG : Hid (Gfm.gmI (s[k].toNat : Int) c = L.getD k 0) := show _ = _ by
        have h2 : k < (nums s).length := by rw [nums_length]; exact hlt
        rw [HL.out, nums_get s k hlt]; simp [List.getD, h2]
      go_wp2_with (first | (go_at_call 23; refine same (refmul_any _ _ _ (by omega) (by omega) c0 c1) ?_) | (at_builtin; go_must (refine wpList_append_own _ rfl _ _ 49 rfl w.heap.size 5 i0 (.int .u8 0) 1 1 Try.underlying49 HI.out HZ0.out HZ1.out HZ2.out rfl (by decide) _ _ _ rfl (World.ownsRow.alloc HO.out _) ⟨wr.heap.size, 0, none⟩ 1 1 [.int .u8 (Gfm.gmI (s[k].toNat : Int) c)] rfl rfl ?c1 ?c2 ?c3 ?c4 ?c5 ?_)))
      case c1 => exact cell_one_new _ _ _
      case c2 => intro u hu; simp at hu; subst hu; rfl
      case c3 => unfold maxLen; omega
      case c4 => omega
      case c5 => have := HB.out.size; simp; omega
      intro v' w1 hown' hgrow _
      have HO1 : Hid (w1.ownsRow w.heap.size 5 1 v' (k + 1) (bcells (L.take (k + 1)))) := show _ by
        rw [HG.out, bcells_snoc, take_snoc (by rw [HLL.out]; exact hlt)] at hown'; exact hown'
      have HB1 : Hid (Below w.heap.size w w1) := (HB.out.alloc HB.out.size _).grown hgrow (by have := HB.out.size; simp; omega) (fun g hg => (World.ownsRow.lt HO.out g hg).1)
      clear hown' hgrow
      go_wp2
      go_roundw
      case rel => exact ⟨k + 1, by omega, by go_num, HO1.out, HB1.out⟩
      case measure => simp [intOf]; omega
    · have hk' : k = s.size := by omega
      subst hk'
      have hcv := own_string wr w.heap.size _ L (by have h := HO.out; rw [List.take_of_length_le (by rw [HLL.out]; exact Nat.le_refl _), ← HLL.out] at h; exact h)
      rw [HL.out, show strOfNums ((nums s).map fun x => Gfm.gmI x c) = vscale s c from rfl] at hcv
      go_wp2
      go_ret
      exact ⟨rfl, HB.out⟩

set_option maxRecDepth 100000 in
set_option maxHeartbeats 1000000 in
theorem refadd_both (a b : ByteArray) (w : World) (ha : a.size ≤ 1073741824) (hb : b.size ≤ 1073741824) :
    Calls Try.prog 21 #[.string a, .string b] w fun e w' => e = .returned (.tuple #[.string (sumS [a, b]), .int .i64 (sumE [a, b])]) ∧ Below w.heap.size w w' := by
  by_cases hab : a.size = b.size
  · have HE : Hid (_) := sumE_two hab
    have HS : Hid (_) := sumS_two hab
    have hne : ((a.size : Int) != (b.size : Int)) = false := by rw [hab]; simp
    have hle : a.size ≤ b.size := by omega
    obtain ⟨i0, hi, hz0, hz1, hz2⟩ := info_parts info_u8
    have HI : Hid (_) := hi
    have HZ0 : Hid (_) := hz0
    have HZ1 : Hid (_) := hz1
    have HZ2 : Hid (_) := hz2
    clear hi hz0 hz1 hz2
    obtain ⟨L, hL⟩ : ∃ L, L = List.zipWith Gfm.xo (nums a) (nums b) := ⟨_, rfl⟩
    have hLl : L.length = a.size := by rw [hL, List.length_zipWith, nums_length, nums_length]; omega
    have HLL : Hid (_) := hLl
    have HL : Hid (_) := hL
    clear hL hLl hab
    go_enter Try.func21, Try.ntmps21
    go_wp2
    go_loopw [6, 7] (fun v i wr => ∃ k : Nat, k ≤ a.size ∧ i = .int .i64 k ∧ wr.ownsRow w.heap.size 5 1 v k (bcells (L.take k)) ∧ Below w.heap.size w wr) (fun _ i _ => a.size - (intOf i).toNat)
    case atStart => exact ⟨0, by omega, rfl, World.ownsRow_nil _ _ _ _, Below.refl _ _⟩
    case round =>
      obtain ⟨k, hk, rfl, hown, hb'⟩ := hrel
      have HO : Hid (_) := hown
      have HB : Hid (_) := hb'
      clear hown hb'
      by_cases hlt : k < a.size
      · have hltb : k < b.size := by omega
        have hx := a[k].toNat_lt
        have hy := b[k].toNat_lt
        have hxor := xor_u8 (a[k].toNat : Int) (b[k].toNat : Int) (by omega) (by omega) (by omega) (by omega)
        have HG : Hid (Gfm.xo (a[k].toNat : Int) (b[k].toNat : Int) = L.getD k 0) := show _ = _ by
          have h2 : k < (nums a).length := by rw [nums_length]; exact hlt
          have h3 : k < (nums b).length := by rw [nums_length]; exact hltb
          rw [HL.out, nums_get a k hlt, nums_get b k hltb]; simp [List.getD, List.getElem?_zipWith, h2, h3]
        go_wp2_with fail
        go_region_law (refine step_append_own rfl (.tmp 19) (.tmp 27) 49 rfl w.heap.size 5 i0 (.int .u8 0) 1 1 Try.underlying49 HI.out HZ0.out HZ1.out HZ2.out rfl (by decide) u6 k (bcells (L.take k)) (by first | rfl | simp [Act.eval, Act.put]) (World.ownsRow.drew (World.ownsRow.alloc HO.out _)) ⟨wr.heap.size, 0, none⟩ 1 1 [.int .u8 (Gfm.xo (a[k].toNat : Int) (b[k].toNat : Int))] (by first | rfl | simp [Act.eval, Act.put]) rfl (cell_one_new _ _ _) (by intro u hu; simp at hu; subst hu; rfl) (by unfold maxLen; omega) (by omega) (by have := HB.out.size; simp; omega) ?_; intro v' w1 hown' hgrow)
        all_goals
          have HO1 : Hid (w1.ownsRow w.heap.size 5 1 v' (k + 1) (bcells (L.take (k + 1)))) := show _ by
            rw [HG.out, bcells_snoc, take_snoc (by rw [HLL.out]; exact hlt)] at hown'; exact hown'
          have HB1 : Hid (Below w.heap.size w w1) := (HB.out.alloc HB.out.size _).drew.grown hgrow (by have := HB.out.size; simp; omega) (fun g hg => (World.ownsRow.lt HO.out g hg).1)
          clear hown' hgrow
          go_wp2
          go_roundw
          case rel => exact ⟨k + 1, by omega, by go_num, HO1.out, HB1.out⟩
          case measure => simp [intOf]; omega
      · have hk' : k = a.size := by omega
        subst hk'
        have hcv := own_string wr w.heap.size _ L (by have h := HO.out; rw [List.take_of_length_le (by rw [HLL.out]; exact Nat.le_refl _), ← HLL.out] at h; exact h)
        rw [HL.out, show strOfNums (List.zipWith Gfm.xo (nums a) (nums b)) = vadd a b from rfl] at hcv
        go_wp2
        go_ret2
        exact ⟨by rw [HE.out, HS.out]; rfl, HB.out⟩
  · have HE : Hid (_) := sumE_no (fun h => hab (oneLen_two.1 h))
    have HS : Hid (_) := sumS_no (fun h => hab (oneLen_two.1 h))
    have hne : ((a.size : Int) != (b.size : Int)) = true := by rw [bne_iff_ne]; omega
    clear hab
    go_enter Try.func21, Try.ntmps21
    go_wp2
    go_ret2
    exact ⟨by rw [HE.out, HS.out]; rfl, Below.refl _ _⟩

end Go.Proofs.Ytjedflppcplmgaa
