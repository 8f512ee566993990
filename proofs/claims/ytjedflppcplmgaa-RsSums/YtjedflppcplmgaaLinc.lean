/- Rows of the identity and rows of inverses of sums (Cauchy's): any as many as there are columns make nothing of no row but 0. No program is named here. -/
import Derived.Test.YtjedflppcplmgaaLin
namespace Lin
set_option linter.unusedVariables false

def ls : List Nat → (Nat → UInt8) → UInt8
  | [], _ => 0
  | y :: l, f => f y ^^^ ls l f
theorem ls_congr {l : List Nat} {f g : Nat → UInt8} (h : ∀ y ∈ l, f y = g y) : ls l f = ls l g := by
  induction l with
  | nil => rfl
  | cons y l ih => rw [ls, ls, h y (by simp), ih (fun z hz => h z (by simp [hz]))]
theorem ls_add (l : List Nat) (f g : Nat → UInt8) : ls l (fun y => f y ^^^ g y) = ls l f ^^^ ls l g := by
  induction l with
  | nil => exact (xz 0).symm
  | cons y l ih => simp only [ls, ih]; rw [xa, xa, xlc (g y)]
theorem ls_ml (l : List Nat) (c : UInt8) (f : Nat → UInt8) : ls l (fun y => ml c (f y)) = ml c (ls l f) := by
  induction l with
  | nil => exact (ml_zero c).symm
  | cons y l ih => simp only [ls, ih, ml_xor]
theorem ls_zero {l : List Nat} {f : Nat → UInt8} (h : ∀ y ∈ l, f y = 0) : ls l f = 0 := by
  induction l with
  | nil => rfl
  | cons y l ih => rw [ls, h y (by simp), ih (fun z hz => h z (by simp [hz])), xz]
theorem ls_perm {l m : List Nat} (h : l.Perm m) (f : Nat → UInt8) : ls l f = ls m f := by
  induction h with
  | nil => rfl
  | cons y _ ih => rw [ls, ls, ih]
  | swap a b l => rw [ls, ls, ls, ls, xlc]
  | trans _ _ h1 h2 => rw [h1, h2]
theorem ls_range (n : Nat) (f : Nat → UInt8) : ls (List.range n) f = sm n f := by
  have key : ∀ (l m : List Nat), ls (l ++ m) f = ls l f ^^^ ls m f := by
    intro l m
    induction l with
    | nil => exact (zx _).symm
    | cons y l ih => rw [List.cons_append, ls, ls, ih, xa]
  induction n with
  | zero => rfl
  | succ n ih => rw [List.range_succ, key, ih, sm]; simp [ls]

/-- The table that makes parity: row r, column y. -/
def gn (k r y : Nat) : UInt8 := if r < k then dl r y else kv (UInt8.ofNat (r ^^^ y))
def bt (r : Nat) : UInt8 := UInt8.ofNat r
theorem bt_xor {r y : Nat} (h : r < 256) (k : y < 256) : UInt8.ofNat (r ^^^ y) = bt r ^^^ bt y := by
  apply UInt8.toNat_inj.1
  rw [UInt8.toNat_xor, bt, bt, tn h, tn k, tn (Gfm.xlt h k)]
theorem bt_ne {r y : Nat} (h : r < 256) (k : y < 256) (e : r ≠ y) : bt r ^^^ bt y ≠ 0 := by
  refine x_ne fun x => e ?_
  have := congrArg UInt8.toNat x
  rwa [bt, bt, tn h, tn k] at this
/-- a over b, and what follows. -/
theorem over_self {a : UInt8} (h : a ≠ 0) (v : UInt8) : ml a (ml (kv a) v) = v := by rw [ml_assoc, ml_kv h, one_ml]
theorem step_one {x y z : UInt8} (h : x ^^^ y ≠ 0) (v : UInt8) : ml (x ^^^ z) (ml (kv (x ^^^ y)) v) = v ^^^ ml (z ^^^ y) (ml (kv (x ^^^ y)) v) := by
  have : x ^^^ z = (x ^^^ y) ^^^ (z ^^^ y) := by rw [xc z y, xa, xcan]
  rw [this, xor_ml, over_self h]
theorem step_two {x w y : UInt8} (h : x ^^^ y ≠ 0) (k : w ^^^ y ≠ 0) (v : UInt8) : ml (kv (x ^^^ y)) v ^^^ ml (kv (w ^^^ y)) v = ml (x ^^^ w) (ml (kv (x ^^^ y)) (ml (kv (w ^^^ y)) v)) := by
  have : x ^^^ w = (x ^^^ y) ^^^ (w ^^^ y) := by rw [xc w y, xa, xcan]
  rw [this, xor_ml, over_self h]
  have e : ml (w ^^^ y) (ml (kv (x ^^^ y)) (ml (kv (w ^^^ y)) v)) = ml (kv (x ^^^ y)) v := by
    rw [ml_assoc, ml_comm (w ^^^ y), ← ml_assoc, over_self k]
  rw [e, xc]
theorem cauchy {k : Nat} (hk : k ≤ 256) : ∀ (h ys : List Nat) (v : Nat → UInt8), h.Pairwise (· < ·) → ys.Nodup → ys.length ≤ h.length → (∀ r ∈ h, r < 256) → (∀ y ∈ ys, y < k) → (∀ r ∈ h, r < k → r ∈ ys) →
    (∀ r ∈ h, ls ys (fun y => ml (gn k r y) (v y)) = 0) → ∀ y ∈ ys, v y = 0
  | [], ys, v, _, _, hl, _, _, _, _, y, hy => by
    have : ys = [] := by simpa using hl
    subst this; simp at hy
  | x :: h, ys, v, hp, hn, hl, h256, hyk, hin, he, y, hy => by
    have hp' := List.pairwise_cons.1 hp
    have e0 := he x (by simp)
    by_cases hx : x < k
    · have hm := hin x (by simp) hx
      have hpm := List.perm_cons_erase hm
      have hv : v x = 0 := by
        rw [ls_perm hpm, ls, gn, if_pos hx, dl, if_pos rfl, one_ml, ls_zero fun z hz => ?_, xz] at e0
        · exact e0
        · have hne : z ≠ x := ((hn.mem_erase_iff).1 hz).1
          rw [gn, if_pos hx, dl, if_neg (fun q => hne q.symm), zero_ml]
      have ih := cauchy hk h (ys.erase x) v hp'.2 (hn.erase x) (by rw [List.length_erase_of_mem hm]; simp at hl; omega) (fun r hr => h256 r (by simp [hr])) (fun z hz => hyk z (List.mem_of_mem_erase hz))
        (fun r hr hrk => (hn.mem_erase_iff).2 ⟨by have := hp'.1 r hr; omega, hin r (by simp [hr]) hrk⟩)
        (fun r hr => by
          have := he r (by simp [hr])
          rw [ls_perm hpm, ls, hv, ml_zero, zx] at this
          exact this)
      by_cases q : y = x
      · rw [q]; exact hv
      · exact ih y ((hn.mem_erase_iff).2 ⟨q, hy⟩)
    · cases ys with
      | nil => simp at hy
      | cons z ys =>
        have hn' := List.nodup_cons.1 hn
        have hx256 := h256 x (by simp)
        have lt : ∀ y ∈ z :: ys, y < 256 := fun y hy => Nat.lt_of_lt_of_le (hyk y hy) hk
        have hzl := lt z (by simp)
        have hzk := hyk z (by simp)
        have ge : ∀ r ∈ x :: h, k ≤ r := by
          intro r hr
          rcases List.mem_cons.1 hr with rfl | hr
          · omega
          · have := hp'.1 r hr; omega
        have ne : ∀ r ∈ x :: h, ∀ y ∈ z :: ys, bt r ^^^ bt y ≠ 0 := fun r hr y hy => bt_ne (h256 r hr) (lt y hy) (by have := ge r hr; have := hyk y hy; omega)
        have eq : ∀ r ∈ x :: h, v z ^^^ ls ys (fun y => v y ^^^ ml (bt z ^^^ bt y) (ml (kv (bt r ^^^ bt y)) (v y))) = 0 := by
          intro r hr
          have h1 := he r hr
          have h2 : ml (bt r ^^^ bt z) (ls (z :: ys) fun y => ml (gn k r y) (v y)) = 0 := by rw [h1, ml_zero]
          rw [← ls_ml, ls] at h2
          rw [← h2]
          congr 1
          · rw [gn, if_neg (by have := ge r hr; omega), bt_xor (h256 r hr) hzl, over_self (ne r hr z (by simp))]
          · refine ls_congr fun y hy => ?_
            rw [gn, if_neg (by have := ge r hr; omega), bt_xor (h256 r hr) (lt y (by simp [hy])), step_one (ne r hr y (by simp [hy]))]
        have ih := cauchy hk h ys (fun y => ml (bt z ^^^ bt y) (ml (kv (bt x ^^^ bt y)) (v y))) hp'.2 hn'.2 (by simp at hl; exact hl) (fun r hr => h256 r (by simp [hr])) (fun y hy => hyk y (by simp [hy]))
          (fun r hr hrk => absurd hrk (by have := ge r (by simp [hr]); omega))
          (fun r hr => by
            have h1 := eq r (by simp [hr])
            have h2 := eq x (by simp)
            have hrx : bt r ^^^ bt x ≠ 0 := bt_ne (h256 r (by simp [hr])) hx256 (by have := hp'.1 r hr; omega)
            rw [ls_add] at h1 h2
            have h3 : ls ys (fun y => ml (bt z ^^^ bt y) (ml (kv (bt r ^^^ bt y)) (v y))) ^^^ ls ys (fun y => ml (bt z ^^^ bt y) (ml (kv (bt x ^^^ bt y)) (v y))) = 0 := by
              rw [← xa] at h1 h2
              rw [← x_eq h1, ← x_eq h2, xs]
            rw [← ls_add] at h3
            have h4 : ml (bt r ^^^ bt x) (ls ys fun y => ml (gn k r y) (ml (bt z ^^^ bt y) (ml (kv (bt x ^^^ bt y)) (v y)))) = 0 := by
              rw [← ls_ml, ← h3]
              refine ls_congr fun y hy => ?_
              rw [gn, if_neg (by have := ge r (by simp [hr]); omega), bt_xor (h256 r (by simp [hr])) (lt y (by simp [hy]))]
              rw [← ml_xor, step_two (ne r (by simp [hr]) y (by simp [hy])) (ne x (by simp) y (by simp [hy]))]
              rw [ml_assoc (kv (bt r ^^^ bt y)), ml_comm (kv (bt r ^^^ bt y)) (bt z ^^^ bt y), ← ml_assoc, ml_assoc (bt r ^^^ bt x), ml_comm (bt r ^^^ bt x), ← ml_assoc]
            refine Classical.byContradiction fun hne => ?_
            exact ml_ne hrx hne h4)
        have rest : ∀ y ∈ ys, v y = 0 := by
          intro y hy
          have h1 := ih y hy
          refine Classical.byContradiction fun hne => ?_
          refine ml_ne (bt_ne hzl (lt y (by simp [hy])) (fun q => hn'.1 (q ▸ hy))) (ml_ne (kv_ne _) hne) h1
        rcases List.mem_cons.1 hy with rfl | hy
        · rw [ls, ls_zero fun q hq => by rw [rest q hq, ml_zero], xz, gn, if_neg hx] at e0
          refine Classical.byContradiction fun hne => ?_
          exact ml_ne (kv_ne _) hne e0
        · exact rest y hy
/-- Any k rows that rise make nothing of no row but 0. -/
theorem gn_not_null {k : Nat} (hk : k ≤ 256) {h : List Nat} (hl : h.length = k) (hp : h.Pairwise (· < ·)) (h256 : ∀ r ∈ h, r < 256) : ¬ Null k fun i j => gn k (h.getD i 0) j := by
  rintro ⟨v, ⟨j, hj, hne⟩, hz⟩
  refine hne (cauchy hk h (List.range k) v hp List.nodup_range (by simp [hl]) h256 (fun y hy => List.mem_range.1 hy) (fun r _ hr => List.mem_range.2 hr) (fun r hr => ?_) j (List.mem_range.2 hj))
  obtain ⟨i, hi, rfl⟩ := List.getElem_of_mem hr
  rw [ls_range]
  have := hz i (by omega)
  unfold av at this
  rw [show h[i] = h.getD i 0 by simp [List.getD, hi]]
  exact this
end Lin
