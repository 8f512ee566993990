/- An array in memory: the program's, and the document's. -/
import Derived.Test.YtgdpmfgmcmgnfacArym
import Derived.Test.YtgdpmfgmcmgnfacDlw0
import Derived.Test.YtgdpmfgmcmgnfacDdk2
import Derived.Test.YtgdpmfgmcmgnfacDdk4
import Derived.Test.YtgdpmfgmcmgnfacDdk5
namespace Go.Proofs.Ytgdpmfgmcmgnfac
open Go.RowKit Frm Diskm Opened Arym
set_option linter.unusedVariables false

theorem isP_types {w : World} {p : Nat} {fp : List Nat} {d : Dk} (h : IsP w p fp d) : ∀ k ∈ fp, ∃ cs t, w.heap[k]? = some (.cells cs t (0, 0)) ∧ (t = 72 ∨ t = 9 ∨ t = 79) := by
  obtain ⟨g, gc, v, l, rfl, h⟩ := h
  intro k hk
  simp only [List.mem_cons] at hk
  rcases hk with rfl | rfl | hk
  · exact ⟨_, _, h.row, .inl rfl⟩
  · rcases h.secs.2 with ⟨e, _⟩ | ⟨g', cap, cur, e, _, hg, _⟩
    · cases e
    · simp only [Value.slice.injEq, Option.some.injEq, Addr.mk.injEq, and_true, true_and] at e
      obtain ⟨rfl, rfl⟩ := e
      exact ⟨_, _, hg, .inr (.inl rfl)⟩
  · rcases h.wt.2 with ⟨rfl, _⟩ | ⟨g', cap, cur, rfl, _, hg, _⟩
    · cases hk
    · simp only [blk, List.mem_singleton] at hk
      subst hk
      exact ⟨_, _, hg, .inr (.inr rfl)⟩
theorem isD_types {w : World} {p : Nat} {fp : List Nat} {d : Dk} (h : IsD w p fp d) : ∀ k ∈ fp, ∃ cs t, w.heap[k]? = some (.cells cs t (0, 0)) ∧ (t = 43 ∨ t = 9 ∨ t = 81) := by
  obtain ⟨g, gc, v, l, rfl, h⟩ := h
  intro k hk
  simp only [List.mem_cons] at hk
  rcases hk with rfl | rfl | hk
  · exact ⟨_, _, h.row, .inl rfl⟩
  · rcases h.secs.2 with ⟨e, _⟩ | ⟨g', cap, cur, e, _, hg, _⟩
    · cases e
    · simp only [Value.slice.injEq, Option.some.injEq, Addr.mk.injEq, and_true, true_and] at e
      obtain ⟨rfl, rfl⟩ := e
      exact ⟨_, _, hg, .inr (.inl rfl)⟩
  · rcases h.wt.2 with ⟨rfl, _⟩ | ⟨g', cap, cur, rfl, _, hg, _⟩
    · cases hk
    · simp only [blk, List.mem_singleton] at hk
      subst hk
      exact ⟨_, _, hg, .inr (.inr rfl)⟩

def ptrs (l : List (Nat × Dk)) : List Value := l.map fun x => .pointer (some ⟨x.1, 0, none⟩)
theorem ptrs_length (l : List (Nat × Dk)) : (ptrs l).length = l.length := by simp [ptrs]
theorem ptrs_set {l : List (Nat × Dk)} {i p : Nat} {d d' : Dk} (h : l[i]? = some (p, d)) : ptrs (l.set i (p, d')) = ptrs l := by
  unfold ptrs
  rw [List.map_set]
  apply List.ext_getElem?
  intro j
  by_cases e : i = j
  · subst e
    have hl := (List.getElem?_eq_some_iff.1 h).1
    rw [List.getElem?_set_self (by simpa using hl), List.getElem?_map, h]
    rfl
  · rw [List.getElem?_set_ne e]

theorem mem_flat {fs : List (List Nat)} {k : Nat} : k ∈ fs.flatten ↔ ∃ i, k ∈ fs.getD i [] := by
  rw [List.mem_flatten]
  constructor
  · rintro ⟨l, hl, hk⟩
    obtain ⟨i, hi, rfl⟩ := List.getElem_of_mem hl
    exact ⟨i, by simpa [List.getD, hi] using hk⟩
  · rintro ⟨i, hk⟩
    by_cases h : i < fs.length
    · exact ⟨fs[i], List.getElem_mem h, by simpa [List.getD, h] using hk⟩
    · simp [List.getD, show fs.length ≤ i by omega] at hk

/-- The program's array. -/
structure Pa (w : World) (pa g gc : Nat) (l : List (Nat × Dk)) (fs : List (List Nat)) (A : Ar) : Prop where
  ds : A.ds = l.map Prod.snd
  row : Row w pa 53 #[.slice (some ⟨g, 0, none⟩) l.length gc, .bool A.down, .bool A.fuse.isSome, .int .i64 (leftP A.fuse)]
  tab : w.ownsRow 0 54 1 (.slice (some ⟨g, 0, none⟩) l.length gc) l.length (ptrs l)
  all : All IsP w l fs
  n : l.length ≤ 255
  fu : ∀ k, A.fuse = some k → k ≤ 9223372036854775807
  good : ∀ d ∈ A.ds, Tidy d
def IsA (w : World) (pa : Nat) (fp : List Nat) (A : Ar) : Prop := ∃ g gc l fs, fp = pa :: g :: fs.flatten ∧ Pa w pa g gc l fs A
/-- The document's array. -/
structure Da (w : World) (pa g gc : Nat) (l : List (Nat × Dk)) (fs : List (List Nat)) (A : Ar) : Prop where
  ds : A.ds = l.map Prod.snd
  row : Row w pa 37 #[.slice (some ⟨g, 0, none⟩) l.length gc, .int .i64 (leftD A.fuse), .bool A.down]
  tab : w.ownsRow 0 44 1 (.slice (some ⟨g, 0, none⟩) l.length gc) l.length (ptrs l)
  all : All IsD w l fs
  n : l.length ≤ 255
  fu : ∀ k, A.fuse = some k → k ≤ 9223372036854775807
  good : ∀ d ∈ A.ds, Tidy d
def IsE (w : World) (pa : Nat) (fp : List Nat) (A : Ar) : Prop := ∃ g gc l fs, fp = pa :: g :: fs.flatten ∧ Da w pa g gc l fs A

theorem all_types {I : World → Nat → List Nat → Dk → Prop} {T : TypeId → Prop} (ht : ∀ w p fp d, I w p fp d → ∀ k ∈ fp, ∃ cs t, w.heap[k]? = some (.cells cs t (0, 0)) ∧ T t) {w : World} {l : List (Nat × Dk)} {fs : List (List Nat)} (h : All I w l fs) {g : Nat} {e : TypeId} {cs : Array Value} (hg : Row w g e cs) (he : ¬ T e) (i : Nat) : g ∉ fs.getD i [] := by
  intro hm
  by_cases hi : i < l.length
  · obtain ⟨cs', t, h1, h2⟩ := ht _ _ _ _ (h.is i _ (List.getElem?_eq_getElem hi)) g hm
    have h3 : w.heap[g]? = some (.cells cs e (0, 0)) := hg
    rw [h1] at h3
    simp at h3
    exact he (h3.2 ▸ h2)
  · have := h.len
    simp [List.getD, show fs.length ≤ i by omega] at hm
theorem own_row {w : World} {base e z n g c : Nat} {xs : List Value} (h : w.ownsRow base e z (.slice (some ⟨g, 0, none⟩) n c) n xs) : ∃ cur, Row w g e cur := by
  rcases h.2 with ⟨e1, _⟩ | ⟨g', cap, cur, e1, _, hg, _⟩
  · cases e1
  · simp only [Value.slice.injEq, Option.some.injEq, Addr.mk.injEq, and_true, true_and] at e1
    obtain ⟨rfl, rfl⟩ := e1
    exact ⟨cur, hg⟩

theorem Pa.apart {w : World} {pa g gc : Nat} {l : List (Nat × Dk)} {fs : List (List Nat)} {A : Ar} (h : Pa w pa g gc l fs A) : pa ≠ g ∧ (∀ i, pa ∉ fs.getD i []) ∧ ∀ i, g ∉ fs.getD i [] := by
  obtain ⟨cur, hcur⟩ := own_row h.tab
  refine ⟨fun e => ?_, all_types (T := fun t => t = 72 ∨ t = 9 ∨ t = 79) (fun _ _ _ _ => isP_types) h.all h.row (by decide), all_types (T := fun t => t = 72 ∨ t = 9 ∨ t = 79) (fun _ _ _ _ => isP_types) h.all hcur (by decide)⟩
  subst e
  exact row_apart h.row h.tab (by decide) (by simp [blk])
theorem Da.apart {w : World} {pa g gc : Nat} {l : List (Nat × Dk)} {fs : List (List Nat)} {A : Ar} (h : Da w pa g gc l fs A) : pa ≠ g ∧ (∀ i, pa ∉ fs.getD i []) ∧ ∀ i, g ∉ fs.getD i [] := by
  obtain ⟨cur, hcur⟩ := own_row h.tab
  refine ⟨fun e => ?_, all_types (T := fun t => t = 43 ∨ t = 9 ∨ t = 81) (fun _ _ _ _ => isD_types) h.all h.row (by decide), all_types (T := fun t => t = 43 ∨ t = 9 ∨ t = 81) (fun _ _ _ _ => isD_types) h.all hcur (by decide)⟩
  subst e
  exact row_apart h.row h.tab (by decide) (by simp [blk])

theorem all_inn {I : World → Nat → List Nat → Dk → Prop} (hi : ∀ w p fp d, I w p fp d → Inn w fp) {w : World} {l : List (Nat × Dk)} {fs : List (List Nat)} (h : All I w l fs) : Inn w fs.flatten := by
  intro k hk
  obtain ⟨i, hk⟩ := mem_flat.1 hk
  by_cases hl : i < l.length
  · exact hi _ _ _ _ (h.is i _ (List.getElem?_eq_getElem hl)) k hk
  · have := h.len
    simp [List.getD, show fs.length ≤ i by omega] at hk
theorem all_kept {I : World → Nat → List Nat → Dk → Prop} (hk : ∀ w w' p fp fq d, I w p fp d → Fr fq w w' → Apart fp fq → I w' p fp d) {w w' : World} {l : List (Nat × Dk)} {fs : List (List Nat)} {fq : List Nat} (h : All I w l fs) (hf : Fr fq w w') (ha : Apart fs.flatten fq) : All I w' l fs :=
  ⟨h.len, fun i x hx => hk _ _ _ _ _ _ (h.is i x hx) hf (fun k hm => ha k (mem_flat.2 ⟨i, hm⟩)), h.ap⟩

theorem IsA.inn {w : World} {pa : Nat} {fp : List Nat} {A : Ar} (h : IsA w pa fp A) : Inn w fp := by
  obtain ⟨g, gc, l, fs, rfl, h⟩ := h
  intro k hk
  simp only [List.mem_cons] at hk
  rcases hk with rfl | rfl | hk
  · exact h.row.lt
  · exact own_inn h.tab _ (by simp [blk])
  · exact all_inn (I := IsP) (fun _ _ _ _ => IsP.inn) h.all k hk
theorem IsE.inn {w : World} {pa : Nat} {fp : List Nat} {A : Ar} (h : IsE w pa fp A) : Inn w fp := by
  obtain ⟨g, gc, l, fs, rfl, h⟩ := h
  intro k hk
  simp only [List.mem_cons] at hk
  rcases hk with rfl | rfl | hk
  · exact h.row.lt
  · exact own_inn h.tab _ (by simp [blk])
  · exact all_inn (I := IsD) (fun _ _ _ _ => IsD.inn) h.all k hk
theorem IsA.kept {w w' : World} {pa : Nat} {fp fq : List Nat} {A : Ar} (h : IsA w pa fp A) (hf : Fr fq w w') (ha : Apart fp fq) : IsA w' pa fp A := by
  obtain ⟨g, gc, l, fs, rfl, h⟩ := h
  exact ⟨g, gc, l, fs, rfl, h.ds, h.row.kept hf (ha pa (by simp)), own_kept h.tab hf (fun k hk => ha k (by simp [blk] at hk; simp [hk])), all_kept (I := IsP) (fun _ _ _ _ _ _ => IsP.kept) h.all hf (fun k hk => ha k (by simp only [List.mem_cons]; exact .inr (.inr hk))), h.n, h.fu, h.good⟩
theorem IsE.kept {w w' : World} {pa : Nat} {fp fq : List Nat} {A : Ar} (h : IsE w pa fp A) (hf : Fr fq w w') (ha : Apart fp fq) : IsE w' pa fp A := by
  obtain ⟨g, gc, l, fs, rfl, h⟩ := h
  exact ⟨g, gc, l, fs, rfl, h.ds, h.row.kept hf (ha pa (by simp)), own_kept h.tab hf (fun k hk => ha k (by simp [blk] at hk; simp [hk])), all_kept (I := IsD) (fun _ _ _ _ _ _ => IsD.kept) h.all hf (fun k hk => ha k (by simp only [List.mem_cons]; exact .inr (.inr hk))), h.n, h.fu, h.good⟩
theorem IsA.below {w w' : World} {pa : Nat} {fp : List Nat} {A : Ar} (h : IsA w pa fp A) (hb : Below w.heap.size w w') : IsA w' pa fp A := h.kept (Fr.of_below (fp := []) hb) (apart_nil _)
theorem IsE.below {w w' : World} {pa : Nat} {fp : List Nat} {A : Ar} (h : IsE w pa fp A) (hb : Below w.heap.size w w') : IsE w' pa fp A := h.kept (Fr.of_below (fp := []) hb) (apart_nil _)

def DoesA (w : World) (pa : Nat) (fp : List Nat) (r : Value) (A' : Ar) (e : Ending) (w' : World) : Prop :=
  e = .returned r ∧ ∃ fp', IsA w' pa fp' A' ∧ Fr fp w w' ∧ Later w fp fp'
def DoesE (w : World) (pa : Nat) (fp : List Nat) (r : Value) (A' : Ar) (e : Ending) (w' : World) : Prop :=
  e = .returned r ∧ ∃ fp', IsE w' pa fp' A' ∧ Fr fp w w' ∧ Later w fp fp'
theorem DoesA.same {w : World} {pa : Nat} {fp : List Nat} {r : Value} {A : Ar} (h : IsA w pa fp A) : DoesA w pa fp r A (.returned r) w := ⟨rfl, fp, h, Fr.refl _ _, Later.refl _ _⟩
theorem DoesE.same {w : World} {pa : Nat} {fp : List Nat} {r : Value} {A : Ar} (h : IsE w pa fp A) : DoesE w pa fp r A (.returned r) w := ⟨rfl, fp, h, Fr.refl _ _, Later.refl _ _⟩
theorem DoesA.then {w W w' : World} {pa : Nat} {fp fq : List Nat} {r : Value} {A' : Ar} {e : Ending} (hf : Fr fp w W) (hl : Later w fp fq) (h : DoesA W pa fq r A' e w') : DoesA w pa fp r A' e w' := by
  obtain ⟨e1, fp', h1, h2, h3⟩ := h
  exact ⟨e1, fp', h1, hf.trans h2 hl, hl.trans h3 hf.size⟩
theorem DoesE.then {w W w' : World} {pa : Nat} {fp fq : List Nat} {r : Value} {A' : Ar} {e : Ending} (hf : Fr fp w W) (hl : Later w fp fq) (h : DoesE W pa fq r A' e w') : DoesE w pa fp r A' e w' := by
  obtain ⟨e1, fp', h1, h2, h3⟩ := h
  exact ⟨e1, fp', h1, hf.trans h2 hl, hl.trans h3 hf.size⟩

theorem Pa.get {w : World} {pa g gc : Nat} {l : List (Nat × Dk)} {fs : List (List Nat)} {A : Ar} (h : Pa w pa g gc l fs A) {i : Nat} (hi : i < l.length) : ∃ p, l[i]? = some (p, A.ds.getD i nod) ∧ w.cell? ⟨g, i, none⟩ = some (.pointer (some ⟨p, 0, none⟩)) ∧ IsP w p (fs.getD i []) (A.ds.getD i nod) := by
  have e : l[i]? = some (l[i].1, A.ds.getD i nod) := by rw [h.ds]; simp [List.getD, hi]
  exact ⟨l[i].1, e, (own_cell h.tab hi (by simp [ptrs, hi])).1, h.all.is i _ e⟩
theorem Da.get {w : World} {pa g gc : Nat} {l : List (Nat × Dk)} {fs : List (List Nat)} {A : Ar} (h : Da w pa g gc l fs A) {i : Nat} (hi : i < l.length) : ∃ p, l[i]? = some (p, A.ds.getD i nod) ∧ w.cell? ⟨g, i, none⟩ = some (.pointer (some ⟨p, 0, none⟩)) ∧ IsD w p (fs.getD i []) (A.ds.getD i nod) := by
  have e : l[i]? = some (l[i].1, A.ds.getD i nod) := by rw [h.ds]; simp [List.getD, hi]
  exact ⟨l[i].1, e, (own_cell h.tab hi (by simp [ptrs, hi])).1, h.all.is i _ e⟩

theorem flat_later {w : World} {fs : List (List Nat)} {i : Nat} {fp' : List Nat} (hi : i < fs.length) (h3 : Later w (fs.getD i []) fp') : Later w fs.flatten (fs.set i fp').flatten := by
  intro k hk
  obtain ⟨j, hk⟩ := mem_flat.1 hk
  by_cases e : i = j
  · subst e
    rw [getD_set_self hi] at hk
    rcases h3 k hk with e | e
    · exact .inl (mem_flat.2 ⟨i, e⟩)
    · exact .inr e
  · rw [getD_set_ne e] at hk
    exact .inl (mem_flat.2 ⟨j, hk⟩)
/-- A call on one disk. -/
theorem Pa.does {w : World} {pa g gc : Nat} {l : List (Nat × Dk)} {fs : List (List Nat)} {A : Ar} (h : Pa w pa g gc l fs A) {i p : Nat} {d d' : Dk} (hi : l[i]? = some (p, d)) (hgd : Tidy d') {r r' : Value} {e : Ending} {w' : World} (hd : DoesP w p (fs.getD i []) r d' e w') :
    DoesA w pa (pa :: g :: fs.flatten) r' { A with ds := A.ds.set i d' } (.returned r') w' := by
  obtain ⟨e1, fp', q1, q2, q3⟩ := hd
  obtain ⟨a1, a2, a3⟩ := h.apart
  have hl : i < l.length := (List.getElem?_eq_some_iff.1 hi).1
  have hlen := h.all.len
  have hlf := flat_later (w := w) (i := i) (fp' := fp') (by omega) q3
  refine ⟨rfl, pa :: g :: (fs.set i fp').flatten, ⟨g, gc, l.set i (p, d'), fs.set i fp', rfl, ?_, ?_, ?_, h.all.set (fun _ _ _ _ => IsP.inn) (fun _ _ _ _ _ _ => IsP.kept) hl q1 q2 q3, by simpa using h.n, h.fu, ?_⟩, ?_, ?_⟩
  · show A.ds.set i d' = _
    rw [List.map_set, h.ds]
  · rw [List.length_set]; exact h.row.kept q2 (a2 i)
  · rw [List.length_set, ptrs_set hi]; exact own_kept h.tab q2 (fun k hk => by simp [blk] at hk; subst hk; exact a3 i)
  · intro x hx
    rcases List.mem_or_eq_of_mem_set hx with hx | rfl
    · exact h.good x hx
    · exact hgd
  · exact q2.mono fun k hk => by simp only [List.mem_cons]; exact .inr (.inr (mem_flat.2 ⟨i, hk⟩))
  · intro k hk
    simp only [List.mem_cons] at hk ⊢
    rcases hk with rfl | rfl | hk
    · simp
    · simp
    · rcases hlf k hk with e | e
      · exact .inl (.inr (.inr e))
      · exact .inr e
theorem Da.does {w : World} {pa g gc : Nat} {l : List (Nat × Dk)} {fs : List (List Nat)} {A : Ar} (h : Da w pa g gc l fs A) {i p : Nat} {d d' : Dk} (hi : l[i]? = some (p, d)) (hgd : Tidy d') {r r' : Value} {e : Ending} {w' : World} (hd : DoesD w p (fs.getD i []) r d' e w') :
    DoesE w pa (pa :: g :: fs.flatten) r' { A with ds := A.ds.set i d' } (.returned r') w' := by
  obtain ⟨e1, fp', q1, q2, q3⟩ := hd
  obtain ⟨a1, a2, a3⟩ := h.apart
  have hl : i < l.length := (List.getElem?_eq_some_iff.1 hi).1
  have hlen := h.all.len
  have hlf := flat_later (w := w) (i := i) (fp' := fp') (by omega) q3
  refine ⟨rfl, pa :: g :: (fs.set i fp').flatten, ⟨g, gc, l.set i (p, d'), fs.set i fp', rfl, ?_, ?_, ?_, h.all.set (fun _ _ _ _ => IsD.inn) (fun _ _ _ _ _ _ => IsD.kept) hl q1 q2 q3, by simpa using h.n, h.fu, ?_⟩, ?_, ?_⟩
  · show A.ds.set i d' = _
    rw [List.map_set, h.ds]
  · rw [List.length_set]; exact h.row.kept q2 (a2 i)
  · rw [List.length_set, ptrs_set hi]; exact own_kept h.tab q2 (fun k hk => by simp [blk] at hk; subst hk; exact a3 i)
  · intro x hx
    rcases List.mem_or_eq_of_mem_set hx with hx | rfl
    · exact h.good x hx
    · exact hgd
  · exact q2.mono fun k hk => by simp only [List.mem_cons]; exact .inr (.inr (mem_flat.2 ⟨i, hk⟩))
  · intro k hk
    simp only [List.mem_cons] at hk ⊢
    rcases hk with rfl | rfl | hk
    · simp
    · simp
    · rcases hlf k hk with e | e
      · exact .inl (.inr (.inr e))
      · exact .inr e
/-- The power, and the fuse, are others. -/
theorem Pa.turn {w W : World} {pa g gc : Nat} {l : List (Nat × Dk)} {fs : List (List Nat)} {A A' : Ar} (h : Pa w pa g gc l fs A) (hf : Fr [pa] w W) (hr : Row W pa 53 #[.slice (some ⟨g, 0, none⟩) l.length gc, .bool A'.down, .bool A'.fuse.isSome, .int .i64 (leftP A'.fuse)]) (hd : A'.ds = A.ds) (hfu : ∀ k, A'.fuse = some k → k ≤ 9223372036854775807) : Pa W pa g gc l fs A' := by
  obtain ⟨a1, a2, a3⟩ := h.apart
  refine ⟨hd.trans h.ds, hr, own_kept h.tab hf (fun k hk => by simp [blk] at hk; subst hk; simpa using fun e => a1 e.symm), all_kept (I := IsP) (fun _ _ _ _ _ _ => IsP.kept) h.all hf (fun k hk hn => ?_), h.n, hfu, by rw [hd]; exact h.good⟩
  simp only [List.mem_singleton] at hn
  subst hn
  obtain ⟨i, hk⟩ := mem_flat.1 hk
  exact a2 i hk
theorem Da.turn {w W : World} {pa g gc : Nat} {l : List (Nat × Dk)} {fs : List (List Nat)} {A A' : Ar} (h : Da w pa g gc l fs A) (hf : Fr [pa] w W) (hr : Row W pa 37 #[.slice (some ⟨g, 0, none⟩) l.length gc, .int .i64 (leftD A'.fuse), .bool A'.down]) (hd : A'.ds = A.ds) (hfu : ∀ k, A'.fuse = some k → k ≤ 9223372036854775807) : Da W pa g gc l fs A' := by
  obtain ⟨a1, a2, a3⟩ := h.apart
  refine ⟨hd.trans h.ds, hr, own_kept h.tab hf (fun k hk => by simp [blk] at hk; subst hk; simpa using fun e => a1 e.symm), all_kept (I := IsD) (fun _ _ _ _ _ _ => IsD.kept) h.all hf (fun k hk hn => ?_), h.n, hfu, by rw [hd]; exact h.good⟩
  simp only [List.mem_singleton] at hn
  subst hn
  obtain ⟨i, hk⟩ := mem_flat.1 hk
  exact a2 i hk
theorem Pa.doesTurn {w W : World} {pa g gc : Nat} {l : List (Nat × Dk)} {fs : List (List Nat)} {A' : Ar} (h : Pa W pa g gc l fs A') (hf : Fr [pa] w W) (r : Value) : DoesA w pa (pa :: g :: fs.flatten) r A' (.returned r) W :=
  ⟨rfl, _, ⟨g, gc, l, fs, rfl, h⟩, hf.mono (by intro k hk; simp only [List.mem_singleton] at hk; subst hk; simp), Later.refl _ _⟩
theorem Da.doesTurn {w W : World} {pa g gc : Nat} {l : List (Nat × Dk)} {fs : List (List Nat)} {A' : Ar} (h : Da W pa g gc l fs A') (hf : Fr [pa] w W) (r : Value) : DoesE w pa (pa :: g :: fs.flatten) r A' (.returned r) W :=
  ⟨rfl, _, ⟨g, gc, l, fs, rfl, h⟩, hf.mono (by intro k hk; simp only [List.mem_singleton] at hk; subst hk; simp), Later.refl _ _⟩
theorem Pa.len {w : World} {pa g gc : Nat} {l : List (Nat × Dk)} {fs : List (List Nat)} {A : Ar} (h : Pa w pa g gc l fs A) : A.ds.length = l.length := by rw [h.ds]; simp
theorem Da.len {w : World} {pa g gc : Nat} {l : List (Nat × Dk)} {fs : List (List Nat)} {A : Ar} (h : Da w pa g gc l fs A) : A.ds.length = l.length := by rw [h.ds]; simp
end Go.Proofs.Ytgdpmfgmcmgnfac
