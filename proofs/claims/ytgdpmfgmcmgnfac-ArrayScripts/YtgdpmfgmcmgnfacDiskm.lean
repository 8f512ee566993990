/- A disk as plain mathematics: sectors that are flushed, writes that wait. -/
import Derived.Test.YtgdpmfgmcmgnfacTxt
namespace Diskm
set_option linter.unusedVariables false

def nul : ByteArray := ⟨#[]⟩
/-- A write that waits: its sector and its text. -/
structure Wr where
  n : Nat
  s : ByteArray
structure Dk where
  secs : List ByteArray
  size : Nat
  wt : List Wr
  gone : Bool

def ap (l : List ByteArray) (p : Wr) : List ByteArray := l.set p.n p.s
def aps (l : List ByteArray) (w : List Wr) : List ByteArray := w.foldl ap l
/-- What a sector is, with what waits for it. -/
def cur (w : List Wr) (n : Nat) (s : ByteArray) : ByteArray := w.foldl (fun s p => if p.n = n then p.s else s) s
/-- Of what waits, what a crash does. -/
def kept : List Wr → List Bool → List Wr
  | [], _ => []
  | _ :: _, [] => []
  | p :: w, k :: ks => if k = true then p :: kept w ks else kept w ks

/-- May a sector have a text? -/
def chk (d : Dk) (n : Int) (z : Nat) : Int := if d.gone = true then 8 else if n < 0 ∨ (d.secs.length : Int) ≤ n then 1 else if d.size < z then 12 else 0
def rdE (d : Dk) (n : Int) : Int := chk d n 0
def rdS (d : Dk) (n : Int) : ByteArray := if rdE d n = 0 then cur d.wt n.toNat (d.secs.getD n.toNat nul) else nul
def wr (d : Dk) (n : Int) (s : ByteArray) : Dk := if chk d n s.size = 0 then { d with wt := d.wt ++ [⟨n.toNat, s⟩] } else d
def goneE (d : Dk) : Int := if d.gone = true then 8 else 0
def fl (d : Dk) : Dk := if d.gone = true then d else { d with secs := aps d.secs d.wt, wt := [] }
def cr (d : Dk) (ks : List Bool) : Dk := if d.gone = true then d else { d with secs := aps d.secs (kept d.wt ks), wt := [] }
def co (d : Dk) (n : Int) (s : ByteArray) : Dk := if chk d n s.size = 0 then { d with secs := d.secs.set n.toNat s, wt := d.wt.filter fun p => decide (p.n ≠ n.toNat) } else d
def fa (d : Dk) : Dk := { d with gone := true, wt := [] }
def re (d : Dk) : Dk := { d with secs := List.replicate d.secs.length nul, gone := false, wt := [] }
def new (n z : Nat) : Dk := ⟨List.replicate n nul, z, [], false⟩

/-- What waits is of sectors that there are. -/
def Ok (d : Dk) : Prop := ∀ p ∈ d.wt, p.n < d.secs.length

theorem aps_nil (l : List ByteArray) : aps l [] = l := rfl
theorem aps_cons (l : List ByteArray) (p : Wr) (w : List Wr) : aps l (p :: w) = aps (ap l p) w := rfl
theorem aps_snoc (l : List ByteArray) (w : List Wr) (p : Wr) : aps l (w ++ [p]) = ap (aps l w) p := by simp [aps]
theorem ap_length (l : List ByteArray) (p : Wr) : (ap l p).length = l.length := List.length_set
theorem aps_length (w : List Wr) : ∀ l, (aps l w).length = l.length := by
  induction w with
  | nil => intro l; rfl
  | cons p w ih => intro l; rw [aps_cons, ih, ap_length]
theorem ap_get (l : List ByteArray) (p : Wr) (n : Nat) (h : n < l.length) : (ap l p).getD n nul = if p.n = n then p.s else l.getD n nul := by
  unfold ap
  by_cases e : p.n = n
  · rw [if_pos e, e]; simp [List.getD, h]
  · rw [if_neg e]; simp [List.getD, e]
theorem aps_get (w : List Wr) : ∀ (l : List ByteArray) (n : Nat), n < l.length → (aps l w).getD n nul = cur w n (l.getD n nul) := by
  induction w with
  | nil => intro l n _; rfl
  | cons p w ih =>
    intro l n h
    rw [aps_cons, ih (ap l p) n (by rw [ap_length]; exact h), ap_get l p n h]
    rfl
theorem cur_snoc (w : List Wr) (p : Wr) (n : Nat) (s : ByteArray) : cur (w ++ [p]) n s = if p.n = n then p.s else cur w n s := by simp [cur]
theorem cur_or (w : List Wr) : ∀ (n : Nat) (s : ByteArray), cur w n s = s ∨ ∃ p ∈ w, p.n = n ∧ p.s = cur w n s := by
  induction w with
  | nil => intro n s; exact .inl rfl
  | cons p w ih =>
    intro n s
    show cur w n (if p.n = n then p.s else s) = s ∨ ∃ q ∈ p :: w, q.n = n ∧ q.s = cur w n (if p.n = n then p.s else s)
    rcases ih n (if p.n = n then p.s else s) with h | ⟨q, hq, h1, h2⟩
    · by_cases e : p.n = n
      · rw [if_pos e] at h ⊢
        exact .inr ⟨p, List.mem_cons_self .., e, h.symm⟩
      · rw [if_neg e] at h ⊢
        exact .inl h
    · exact .inr ⟨q, List.mem_cons_of_mem _ hq, h1, h2⟩
theorem kept_sub (w : List Wr) : ∀ ks, ∀ p ∈ kept w ks, p ∈ w := by
  induction w with
  | nil => intro ks p hp; cases ks <;> simp [kept] at hp
  | cons q w ih =>
    intro ks p hp
    cases ks with
    | nil => simp [kept] at hp
    | cons k ks =>
      rw [kept] at hp
      split at hp
      · rcases List.mem_cons.1 hp with rfl | h
        · exact List.mem_cons_self ..
        · exact List.mem_cons_of_mem _ (ih ks p h)
      · exact List.mem_cons_of_mem _ (ih ks p hp)
theorem kept_nil (w : List Wr) : kept w [] = [] := by cases w <;> rfl
theorem kept_none (ks : List Bool) : kept [] ks = [] := by cases ks <;> rfl
theorem kept_all (w : List Wr) : ∀ n, w.length ≤ n → kept w (List.replicate n true) = w := by
  induction w with
  | nil => intro n _; exact kept_none _
  | cons p w ih =>
    intro n h
    obtain ⟨m, rfl⟩ : ∃ m, n = m + 1 := ⟨n - 1, by simp at h; omega⟩
    rw [List.replicate_succ, kept, if_pos rfl, ih m (by simpa using h)]
theorem kept_snoc (w : List Wr) (p : Wr) : ∀ ks, kept (w ++ [p]) ks = kept w ks ++ (if ks.getD w.length false = true then [p] else []) := by
  induction w with
  | nil =>
    intro ks
    cases ks with
    | nil => rfl
    | cons k ks =>
      show (if k = true then p :: kept [] ks else kept [] ks) = kept [] (k :: ks) ++ _
      rw [kept_none, kept_none]
      cases k <;> rfl
  | cons q w ih =>
    intro ks
    cases ks with
    | nil => simp [kept, List.getD]
    | cons k ks =>
      rw [List.cons_append, kept, kept, ih ks]
      by_cases e : k = true
      · rw [if_pos e, if_pos e]; rfl
      · rw [if_neg e, if_neg e]; rfl
theorem ok_new (n z : Nat) : Ok (new n z) := fun p hp => by cases hp
theorem ok_wr {d : Dk} (h : Ok d) (n : Int) (s : ByteArray) : Ok (wr d n s) := by
  unfold wr
  split
  · rename_i hc
    intro p hp
    rcases List.mem_append.1 hp with hp | hp
    · exact h p hp
    · simp only [List.mem_singleton] at hp
      subst hp
      unfold chk at hc
      split at hc
      · cases hc
      · split at hc
        · cases hc
        · show n.toNat < d.secs.length
          omega
  · exact h
theorem ok_fl {d : Dk} (h : Ok d) : Ok (fl d) := by
  unfold fl; split
  · exact h
  · intro p hp; cases hp
theorem ok_cr {d : Dk} (h : Ok d) (ks : List Bool) : Ok (cr d ks) := by
  unfold cr; split
  · exact h
  · intro p hp; cases hp
theorem ok_co {d : Dk} (h : Ok d) (n : Int) (s : ByteArray) : Ok (co d n s) := by
  unfold co; split
  · intro p hp
    show p.n < (d.secs.set n.toNat s).length
    rw [List.length_set]
    exact h p (List.mem_filter.1 hp).1
  · exact h
theorem ok_fa {d : Dk} (h : Ok d) : Ok (fa d) := fun p hp => by cases hp
theorem ok_re {d : Dk} (h : Ok d) : Ok (re d) := fun p hp => by cases hp
theorem secs_fl (d : Dk) : (fl d).secs.length = d.secs.length := by unfold fl; split; rfl; exact aps_length _ _
theorem secs_cr (d : Dk) (ks : List Bool) : (cr d ks).secs.length = d.secs.length := by unfold cr; split; rfl; exact aps_length _ _
theorem secs_wr (d : Dk) (n : Int) (s : ByteArray) : (wr d n s).secs = d.secs := by unfold wr; split <;> rfl

theorem chk_in {d : Dk} {n : Nat} (hg : d.gone = false) (h : n < d.secs.length) : chk d n 0 = 0 := by
  rw [chk, hg, if_neg (by decide), if_neg (by omega), if_neg (by omega)]
theorem rd_in {d : Dk} {n : Nat} (hg : d.gone = false) (h : n < d.secs.length) : rdE d n = 0 ∧ rdS d n = cur d.wt n (d.secs.getD n nul) := by
  have e : rdE d n = 0 := chk_in hg h
  exact ⟨e, by rw [rdS, if_pos e, Int.toNat_natCast]⟩
/-- A flush changes nothing of what is read. -/
theorem rd_fl {d : Dk} {n : Nat} (hg : d.gone = false) (h : n < d.secs.length) : rdS (fl d) n = rdS d n := by
  have e : fl d = { d with secs := aps d.secs d.wt, wt := [] } := by rw [fl, hg, if_neg (by decide)]
  rw [(rd_in hg h).2, e, (rd_in (d := { d with secs := aps d.secs d.wt, wt := [] }) hg (by rw [aps_length]; exact h)).2]
  exact aps_get d.wt d.secs n h
/-- Behind a crash: as it was flushed, or as one of the writes. -/
theorem rd_cr {d : Dk} {n : Nat} (ks : List Bool) (hg : d.gone = false) (h : n < d.secs.length) : rdS (cr d ks) n = cur (kept d.wt ks) n (d.secs.getD n nul) := by
  have e : cr d ks = { d with secs := aps d.secs (kept d.wt ks), wt := [] } := by rw [cr, hg, if_neg (by decide)]
  rw [e, (rd_in (d := { d with secs := aps d.secs (kept d.wt ks), wt := [] }) hg (by rw [aps_length]; exact h)).2]
  exact aps_get _ d.secs n h
theorem rd_cr_or {d : Dk} {n : Nat} (ks : List Bool) (hg : d.gone = false) (h : n < d.secs.length) : rdS (cr d ks) n = d.secs.getD n nul ∨ ∃ p ∈ d.wt, p.n = n ∧ p.s = rdS (cr d ks) n := by
  rw [rd_cr ks hg h]
  rcases cur_or (kept d.wt ks) n (d.secs.getD n nul) with e | ⟨p, hp, h1, h2⟩
  · exact .inl e
  · exact .inr ⟨p, kept_sub _ _ p hp, h1, h2⟩
end Diskm
