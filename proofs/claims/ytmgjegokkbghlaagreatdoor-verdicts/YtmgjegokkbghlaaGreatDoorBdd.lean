/- Plain mathematics of ordered diagrams: no program, no model. -/
namespace Go.Proofs.YtmgjegokkbghlaaGreatDoor.Bdd

structure Nd where
  lv : Int
  lo : Int
  hi : Int
deriving DecidableEq

abbrev Tab := Int → Option Nd

def ev (N : Tab) : Nat → Int → (Int → Bool) → Bool
  | 0, f, _ => f == 1
  | k + 1, f, a => match N f with
    | none => f == 1
    | some n => ev N k (if a n.lv then n.hi else n.lo) a

def Ok (N : Tab) (l : Int) (f : Int) : Prop := f = 0 ∨ f = 1 ∨ ∃ n, N f = some n ∧ l ≤ n.lv

structure Wf (N : Tab) (top last : Int) : Prop where
  range : ∀ f n, N f = some n → 2 ≤ f ∧ f ≤ last
  lv : ∀ f n, N f = some n → 0 ≤ n.lv ∧ n.lv < top
  lo : ∀ f n, N f = some n → Ok N (n.lv + 1) n.lo
  hi : ∀ f n, N f = some n → Ok N (n.lv + 1) n.hi
  ne : ∀ f n, N f = some n → n.lo ≠ n.hi
  uniq : ∀ f g n, N f = some n → N g = some n → f = g
  one : 1 ≤ last
  tops : top ≤ 11

variable {N N' : Tab} {top last last' : Int}

theorem Wf.zero (h : Wf N top last) : N 0 = none := by
  cases e : N 0 with
  | none => rfl
  | some n => have := h.range 0 n e; omega
theorem Wf.onee (h : Wf N top last) : N 1 = none := by
  cases e : N 1 with
  | none => rfl
  | some n => have := h.range 1 n e; omega
theorem Wf.none_of (h : Wf N top last) {f : Int} (hf : f = 0 ∨ f = 1) : N f = none := by
  rcases hf with rfl | rfl
  · exact h.zero
  · exact h.onee

theorem Ok.mono {l l' : Int} {f : Int} (h : Ok N l f) (hl : l' ≤ l) : Ok N l' f := by
  rcases h with h | h | ⟨n, h, h'⟩
  · exact Or.inl h
  · exact Or.inr (Or.inl h)
  · exact Or.inr (Or.inr ⟨n, h, by omega⟩)
theorem ok_zero (l : Int) : Ok N l 0 := Or.inl rfl
theorem ok_one (l : Int) : Ok N l 1 := Or.inr (Or.inl rfl)
theorem ok_node {f : Int} {n : Nd} (h : N f = some n) : Ok N n.lv f := Or.inr (Or.inr ⟨n, h, Int.le_refl _⟩)

theorem ev_const (h : Wf N top last) (k : Nat) {f : Int} (hf : f = 0 ∨ f = 1) (a : Int → Bool) : ev N k f a = (f == 1) := by
  cases k with
  | zero => rfl
  | succ k => simp [ev, h.none_of hf]

theorem ev_succ (h : Wf N top last) : ∀ (k : Nat) (l f : Int) (a : Int → Bool), Ok N l f → top - l ≤ k → ev N (k + 1) f a = ev N k f a := by
  intro k
  induction k with
  | zero =>
    intro l f a hf hk
    rcases hf with hf | hf | ⟨n, hn, hl⟩
    · simp [ev, h.none_of (Or.inl hf)]
    · simp [ev, h.none_of (Or.inr hf)]
    · have := h.lv f n hn; omega
  | succ k ih =>
    intro l f a hf hk
    rcases hf with hf | hf | ⟨n, hn, hl⟩
    · rw [ev_const h _ (Or.inl hf), ev_const h _ (Or.inl hf)]
    · rw [ev_const h _ (Or.inr hf), ev_const h _ (Or.inr hf)]
    · show (match N f with | none => f == 1 | some n => ev N (k+1) (if a n.lv then n.hi else n.lo) a) = (match N f with | none => f == 1 | some n => ev N k (if a n.lv then n.hi else n.lo) a)
      rw [hn]
      show ev N (k+1) (if a n.lv then n.hi else n.lo) a = ev N k (if a n.lv then n.hi else n.lo) a
      apply ih (n.lv + 1)
      · split
        · exact h.hi f n hn
        · exact h.lo f n hn
      · omega

theorem ev_ge (h : Wf N top last) {l f : Int} (a : Int → Bool) (hf : Ok N l f) (k : Nat) (hk : top - l ≤ k) (j : Nat) : ev N (k + j) f a = ev N k f a := by
  induction j with
  | zero => rfl
  | succ j ih => rw [← Nat.add_assoc, ev_succ h (k + j) l f a hf (by omega), ih]

/-- the value of a function -/
def E (N : Tab) (f : Int) (a : Int → Bool) : Bool := ev N 11 f a

theorem E_zero (h : Wf N top last) (a : Int → Bool) : E N 0 a = false := ev_const h 11 (Or.inl rfl) a
theorem E_one (h : Wf N top last) (a : Int → Bool) : E N 1 a = true := ev_const h 11 (Or.inr rfl) a
theorem E_node (h : Wf N top last) {f : Int} {n : Nd} (hn : N f = some n) (a : Int → Bool) : E N f a = if a n.lv then E N n.hi a else E N n.lo a := by
  have hv := h.lv f n hn
  have ht := h.tops
  unfold E
  show (match N f with | none => f == 1 | some n => ev N 10 (if a n.lv then n.hi else n.lo) a) = _
  rw [hn]
  show ev N 10 (if a n.lv then n.hi else n.lo) a = _
  split
  · exact (ev_succ h 10 (n.lv + 1) n.hi a (h.hi f n hn) (by omega)).symm
  · exact (ev_succ h 10 (n.lv + 1) n.lo a (h.lo f n hn) (by omega)).symm

/-- induction on how far a function is from the last level -/
theorem ok_ind (h : Wf N top last) {P : Int → Prop} (h0 : P 0) (h1 : P 1) (hn : ∀ f n, N f = some n → P n.lo → P n.hi → P f) : ∀ {l f : Int}, Ok N l f → P f := by
  have key : ∀ (k : Nat) (l f : Int), Ok N l f → top - l ≤ k → P f := by
    intro k
    induction k with
    | zero =>
      intro l f hf hk
      rcases hf with rfl | rfl | ⟨n, hnn, hl⟩
      · exact h0
      · exact h1
      · have := h.lv f n hnn; omega
    | succ k ih =>
      intro l f hf hk
      rcases hf with rfl | rfl | ⟨n, hnn, hl⟩
      · exact h0
      · exact h1
      · exact hn f n hnn (ih _ _ (h.lo f n hnn) (by omega)) (ih _ _ (h.hi f n hnn) (by omega))
  intro l f hf
  exact key (top - l).toNat l f hf (by omega)

/-- same values where the assignments agree from the level on -/
theorem E_indep (h : Wf N top last) {l f : Int} (hf : Ok N l f) (a b : Int → Bool) (hab : ∀ i, l ≤ i → a i = b i) : E N f a = E N f b := by
  have key : ∀ (k : Nat) (l f : Int), Ok N l f → top - l ≤ k → (∀ i, l ≤ i → a i = b i) → E N f a = E N f b := by
    intro k
    induction k with
    | zero =>
      intro l f hf hk _
      rcases hf with rfl | rfl | ⟨n, hnn, hl⟩
      · rw [E_zero h, E_zero h]
      · rw [E_one h, E_one h]
      · have := h.lv f n hnn; omega
    | succ k ih =>
      intro l f hf hk hab
      rcases hf with rfl | rfl | ⟨n, hnn, hl⟩
      · rw [E_zero h, E_zero h]
      · rw [E_one h, E_one h]
      · rw [E_node h hnn, E_node h hnn, hab n.lv hl, ih _ _ (h.lo f n hnn) (by omega) (fun i hi => hab i (by omega)), ih _ _ (h.hi f n hnn) (by omega) (fun i hi => hab i (by omega))]
  exact key (top - l).toNat l f hf (by omega) hab

def Sub (N N' : Tab) : Prop := ∀ f n, N f = some n → N' f = some n
theorem Sub.refl (N : Tab) : Sub N N := fun _ _ h => h
theorem Sub.trans {N'' : Tab} (h : Sub N N') (h' : Sub N' N'') : Sub N N'' := fun f n e => h' f n (h f n e)
theorem Ok.sub {l f : Int} (hf : Ok N l f) (hs : Sub N N') : Ok N' l f := by
  rcases hf with h | h | ⟨n, h, h'⟩
  · exact Or.inl h
  · exact Or.inr (Or.inl h)
  · exact Or.inr (Or.inr ⟨n, hs f n h, h'⟩)
theorem E_sub (h : Wf N top last) (h' : Wf N' top last') (hs : Sub N N') {l f : Int} (hf : Ok N l f) (a : Int → Bool) : E N' f a = E N f a := by
  refine ok_ind (P := fun f => E N' f a = E N f a) h ?_ ?_ ?_ hf
  · rw [E_zero h, E_zero h']
  · rw [E_one h, E_one h']
  · intro f n hn h1 h2
    rw [E_node h hn, E_node h' (hs f n hn), h1, h2]

/-- one node more -/
def upd (N : Tab) (f : Int) (n : Nd) : Tab := fun g => if g = f then some n else N g
theorem upd_same (N : Tab) (f : Int) (n : Nd) : upd N f n f = some n := by simp [upd]
theorem upd_other {f g : Int} (n : Nd) (h : g ≠ f) : upd N f n g = N g := by simp [upd, h]

theorem Wf.fresh (h : Wf N top last) : N (last + 1) = none := by
  cases e : N (last + 1) with
  | none => rfl
  | some n => have := h.range _ n e; omega
theorem sub_upd (h : Wf N top last) (n : Nd) : Sub N (upd N (last + 1) n) := by
  intro f m hm
  have := h.range f m hm
  rw [upd_other n (by omega)]; exact hm
theorem Wf.upd (h : Wf N top last) {n : Nd} (h1 : 0 ≤ n.lv ∧ n.lv < top) (h2 : Ok N (n.lv + 1) n.lo) (h3 : Ok N (n.lv + 1) n.hi) (h4 : n.lo ≠ n.hi) (h5 : ∀ f, N f ≠ some n) : Wf (upd N (last + 1) n) top (last + 1) := by
  have hs := sub_upd h n
  have cases_ : ∀ f m, Bdd.upd N (last + 1) n f = some m → (f = last + 1 ∧ m = n) ∨ N f = some m := by
    intro f m hm
    by_cases e : f = last + 1
    · subst e; rw [upd_same] at hm; cases hm; exact Or.inl ⟨rfl, rfl⟩
    · rw [upd_other n e] at hm; exact Or.inr hm
  have ho := h.one
  refine ⟨?_, ?_, ?_, ?_, ?_, ?_, by omega, h.tops⟩
  · intro f m hm
    rcases cases_ f m hm with ⟨rfl, rfl⟩ | hm
    · omega
    · have := h.range f m hm; omega
  · intro f m hm
    rcases cases_ f m hm with ⟨rfl, rfl⟩ | hm
    · exact h1
    · exact h.lv f m hm
  · intro f m hm
    rcases cases_ f m hm with ⟨rfl, rfl⟩ | hm
    · exact h2.sub hs
    · exact (h.lo f m hm).sub hs
  · intro f m hm
    rcases cases_ f m hm with ⟨rfl, rfl⟩ | hm
    · exact h3.sub hs
    · exact (h.hi f m hm).sub hs
  · intro f m hm
    rcases cases_ f m hm with ⟨rfl, rfl⟩ | hm
    · exact h4
    · exact h.ne f m hm
  · intro f g m hf hg
    rcases cases_ f m hf with ⟨e1, e2⟩ | hf'
    · rcases cases_ g m hg with ⟨e3, _⟩ | hg'
      · exact e1.trans e3.symm
      · rw [e2] at hg'; exact absurd hg' (h5 g)
    · rcases cases_ g m hg with ⟨_, e⟩ | hg'
      · rw [e] at hf'; exact absurd hf' (h5 f)
      · exact h.uniq f g m hf' hg'

/-- TWO FUNCTIONS WITH THE SAME VALUES HAVE ONE NAME. -/
theorem canon (h : Wf N top last) : ∀ (k : Nat) (l f g : Int), 0 ≤ l → top - l ≤ k → Ok N l f → Ok N l g → (∀ a, E N f a = E N g a) → f = g := by
  intro k
  induction k with
  | zero =>
    intro l f g h0 hk hf hg hE
    have hc : ∀ {f}, Ok N l f → f = 0 ∨ f = 1 := by
      intro f hf
      rcases hf with hf | hf | ⟨n, hn, hl⟩
      · exact Or.inl hf
      · exact Or.inr hf
      · have := h.lv f n hn; omega
    have h1 := hE (fun _ => false)
    rcases hc hf with rfl | rfl <;> rcases hc hg with rfl | rfl
    · rfl
    · rw [E_zero h, E_one h] at h1; cases h1
    · rw [E_zero h, E_one h] at h1; cases h1
    · rfl
  | succ k ih =>
    intro l f g h0 hk hf hg hE
    -- does either ask level l?
    have step : ∀ {f}, Ok N l f → Ok N (l + 1) f ∨ ∃ n, N f = some n ∧ n.lv = l := by
      intro f hf
      rcases hf with hf | hf | ⟨n, hn, hl⟩
      · exact Or.inl (Or.inl hf)
      · exact Or.inl (Or.inr (Or.inl hf))
      · by_cases e : n.lv = l
        · exact Or.inr ⟨n, hn, e⟩
        · exact Or.inl (Or.inr (Or.inr ⟨n, hn, by omega⟩))
    have parts : ∀ {f n}, N f = some n → n.lv = l → (∀ a, E N f (fun i => if i = l then true else a i) = E N n.hi a) ∧ (∀ a, E N f (fun i => if i = l then false else a i) = E N n.lo a) := by
      intro f n hn hl
      refine ⟨fun a => ?_, fun a => ?_⟩
      · rw [E_node h hn, hl]
        rw [if_pos (by simp)]
        exact E_indep h (h.hi f n hn) _ _ (fun i hi => by show (if i = l then true else a i) = a i; rw [if_neg (by omega)])
      · rw [E_node h hn, hl]
        rw [if_neg (by simp)]
        exact E_indep h (h.lo f n hn) _ _ (fun i hi => by show (if i = l then false else a i) = a i; rw [if_neg (by omega)])
    have flat : ∀ {f}, Ok N (l + 1) f → ∀ (v : Bool) a, E N f (fun i => if i = l then v else a i) = E N f a := by
      intro f hf v a
      exact E_indep h hf _ _ (fun i hi => by rw [if_neg (by omega)])
    rcases step hf with hf' | ⟨n, hn, hl⟩
    · rcases step hg with hg' | ⟨m, hm, hl'⟩
      · exact ih (l + 1) f g (by omega) (by omega) hf' hg' hE
      · exfalso
        have p := parts hm hl'
        refine h.ne g m hm (ih (l + 1) m.lo m.hi (by omega) (by omega) (by rw [← hl']; exact h.lo g m hm) (by rw [← hl']; exact h.hi g m hm) (fun a => ?_))
        rw [← p.2 a, ← p.1 a, ← hE, ← hE, flat hf', flat hf']
    · have p := parts hn hl
      rcases step hg with hg' | ⟨m, hm, hl'⟩
      · exfalso
        refine h.ne f n hn (ih (l + 1) n.lo n.hi (by omega) (by omega) (by rw [← hl]; exact h.lo f n hn) (by rw [← hl]; exact h.hi f n hn) (fun a => ?_))
        rw [← p.2 a, ← p.1 a, hE, hE, flat hg', flat hg']
      · have q := parts hm hl'
        have e1 : n.lo = m.lo := ih (l + 1) _ _ (by omega) (by omega) (by rw [← hl]; exact h.lo f n hn) (by rw [← hl']; exact h.lo g m hm) (fun a => by rw [← p.2 a, ← q.2 a, hE])
        have e2 : n.hi = m.hi := ih (l + 1) _ _ (by omega) (by omega) (by rw [← hl]; exact h.hi f n hn) (by rw [← hl']; exact h.hi g m hm) (fun a => by rw [← p.1 a, ← q.1 a, hE])
        have e3 : n = m := by
          cases n; cases m; simp at hl hl' e1 e2 ⊢; exact ⟨hl.trans hl'.symm, e1, e2⟩
        exact h.uniq f g n hn (e3 ▸ hm)

theorem canon_iff (h : Wf N top last) {f g : Int} (hf : Ok N 0 f) (hg : Ok N 0 g) : f = g ↔ ∀ a, E N f a = E N g a :=
  ⟨fun e a => by rw [e], fun hE => canon h top.toNat 0 f g (by omega) (by omega) hf hg hE⟩

/-- only the levels below top matter -/
theorem E_below (h : Wf N top last) {f : Int} (hf : Ok N 0 f) (a b : Int → Bool) (hab : ∀ i, 0 ≤ i → i < top → a i = b i) : E N f a = E N f b := by
  refine ok_ind (P := fun f => E N f a = E N f b) h ?_ ?_ ?_ hf
  · rw [E_zero h, E_zero h]
  · rw [E_one h, E_one h]
  · intro f n hn h1 h2
    have := h.lv f n hn
    rw [E_node h hn, E_node h hn, h1, h2, hab n.lv this.1 this.2]

/-! ### what is reached -/
inductive Rch (N : Tab) : Int → Int → Prop
  | self {f n} : N f = some n → Rch N f f
  | lo {f n x} : N f = some n → Rch N n.lo x → Rch N f x
  | hi {f n x} : N f = some n → Rch N n.hi x → Rch N f x

/-- the nodes of f, as a list (with repeats): how many there can be -/
def nodesOf (N : Tab) : Nat → Int → List Int
  | 0, _ => []
  | k + 1, f => match N f with
    | none => []
    | some n => f :: (nodesOf N k n.lo ++ nodesOf N k n.hi)

theorem nodesOf_len (N : Tab) : ∀ (k : Nat) (f : Int), (nodesOf N k f).length + 1 ≤ 2 ^ k
  | 0, _ => by simp [nodesOf]
  | k + 1, f => by
    unfold nodesOf
    cases N f with
    | none => simp; exact Nat.one_le_two_pow
    | some n =>
      have h1 := nodesOf_len N k n.lo
      have h2 := nodesOf_len N k n.hi
      simp [Nat.pow_succ]
      omega

theorem mem_nodesOf (h : Wf N top last) {f x : Int} (hr : Rch N f x) : ∀ (k : Nat) (l : Int), Ok N l f → top - l ≤ k → x ∈ nodesOf N k f := by
  induction hr with
  | @self f n hn =>
    intro k l hf hk
    have hv := h.lv f n hn
    rcases hf with hf | hf | ⟨m, hm, hl⟩
    · rw [h.none_of (Or.inl hf)] at hn; cases hn
    · rw [h.none_of (Or.inr hf)] at hn; cases hn
    · rw [hn] at hm; cases hm
      cases k with
      | zero => omega
      | succ k => simp [nodesOf, hn]
  | @lo f n x hn _ ih =>
    intro k l hf hk
    have hv := h.lv f n hn
    rcases hf with hf | hf | ⟨m, hm, hl⟩
    · rw [h.none_of (Or.inl hf)] at hn; cases hn
    · rw [h.none_of (Or.inr hf)] at hn; cases hn
    · rw [hn] at hm; cases hm
      cases k with
      | zero => omega
      | succ k =>
        have := ih k (n.lv + 1) (h.lo f n hn) (by omega)
        simp [nodesOf, hn, this]
  | @hi f n x hn _ ih =>
    intro k l hf hk
    have hv := h.lv f n hn
    rcases hf with hf | hf | ⟨m, hm, hl⟩
    · rw [h.none_of (Or.inl hf)] at hn; cases hn
    · rw [h.none_of (Or.inr hf)] at hn; cases hn
    · rw [hn] at hm; cases hm
      cases k with
      | zero => omega
      | succ k =>
        have := ih k (n.lv + 1) (h.hi f n hn) (by omega)
        simp [nodesOf, hn, this]

/-! ### what is kept -/
def keep (N : Tab) (S : Int → Bool) : Tab := fun f => if S f then N f else none
theorem keep_some {S : Int → Bool} {f : Int} {n : Nd} : keep N S f = some n ↔ S f = true ∧ N f = some n := by
  unfold keep; split <;> simp_all
/-- S is closed: the parts of what is in S are in S -/
def Closed (N : Tab) (S : Int → Bool) : Prop := ∀ f n, S f = true → N f = some n → (∀ m, N n.lo = some m → S n.lo = true) ∧ (∀ m, N n.hi = some m → S n.hi = true)
theorem Ok.keep {S : Int → Bool} {l f : Int} (hf : Ok N l f) (hS : ∀ m, N f = some m → S f = true) : Ok (Bdd.keep N S) l f := by
  rcases hf with h | h | ⟨n, h, h'⟩
  · exact Or.inl h
  · exact Or.inr (Or.inl h)
  · exact Or.inr (Or.inr ⟨n, keep_some.2 ⟨hS n h, h⟩, h'⟩)
theorem Wf.keep (h : Wf N top last) {S : Int → Bool} (hc : Closed N S) : Wf (Bdd.keep N S) top last := by
  refine ⟨?_, ?_, ?_, ?_, ?_, ?_, h.one, h.tops⟩
  · intro f n hn; exact h.range f n (keep_some.1 hn).2
  · intro f n hn; exact h.lv f n (keep_some.1 hn).2
  · intro f n hn; obtain ⟨h1, h2⟩ := keep_some.1 hn; exact (h.lo f n h2).keep (hc f n h1 h2).1
  · intro f n hn; obtain ⟨h1, h2⟩ := keep_some.1 hn; exact (h.hi f n h2).keep (hc f n h1 h2).2
  · intro f n hn; exact h.ne f n (keep_some.1 hn).2
  · intro f g n h1 h2; exact h.uniq f g n (keep_some.1 h1).2 (keep_some.1 h2).2
theorem sub_keep {S : Int → Bool} : Sub (keep N S) N := fun _ _ h => (keep_some.1 h).2
theorem E_keep (h : Wf N top last) {S : Int → Bool} (hc : Closed N S) {l f : Int} (hf : Ok N l f) (hS : ∀ m, N f = some m → S f = true) (a : Int → Bool) : E (keep N S) f a = E N f a :=
  (E_sub (h.keep hc) h sub_keep (hf.keep hS) a).symm

/-! ### counting -/
def setAt (a : Int → Bool) (l : Int) (v : Bool) : Int → Bool := fun i => if i = l then v else a i
/-- of how many of the assignments that differ from a in the k places from l on P is true -/
def cnt (P : (Int → Bool) → Bool) : Nat → Int → (Int → Bool) → Nat
  | 0, _, a => if P a then 1 else 0
  | k + 1, l, a => cnt P k (l + 1) (setAt a l false) + cnt P k (l + 1) (setAt a l true)

theorem cnt_congr {P Q : (Int → Bool) → Bool} (h : ∀ a, P a = Q a) : ∀ (k : Nat) (l : Int) (a : Int → Bool), cnt P k l a = cnt Q k l a
  | 0, _, a => by simp [cnt, h a]
  | k + 1, l, a => by simp [cnt, cnt_congr h k]

theorem cnt_false : ∀ (k : Nat) (l : Int) (a : Int → Bool), cnt (fun _ => false) k l a = 0
  | 0, _, _ => rfl
  | k + 1, l, a => by simp [cnt, cnt_false k]
theorem cnt_true : ∀ (k : Nat) (l : Int) (a : Int → Bool), cnt (fun _ => true) k l a = 2 ^ k
  | 0, _, _ => rfl
  | k + 1, l, a => by simp [cnt, cnt_true k, Nat.pow_succ]; omega

/-- P does not look at places below l: then what a holds there is not seen -/
theorem cnt_agree {P : (Int → Bool) → Bool} {v : Int} (hP : ∀ a b, (∀ i, v ≤ i → a i = b i) → P a = P b) : ∀ (k : Nat) (l : Int) (a b : Int → Bool), v ≤ l → (∀ i, v ≤ i → (i < l) → a i = b i) → (∀ i, l + k ≤ i → a i = b i) → cnt P k l a = cnt P k l b
  | 0, l, a, b, hl, h1, h2 => by
    have : P a = P b := hP a b (fun i hi => by
      by_cases hlt : i < l
      · exact h1 i hi hlt
      · exact h2 i (by omega))
    simp [cnt, this]
  | k + 1, l, a, b, hl, h1, h2 => by
    have e : ∀ v' : Bool, cnt P k (l + 1) (setAt a l v') = cnt P k (l + 1) (setAt b l v') := fun v' => by
      apply cnt_agree hP k (l + 1) _ _ (by omega)
      · intro i hi hlt
        unfold setAt
        by_cases e : i = l
        · simp [e]
        · simp [e]; exact h1 i hi (by omega)
      · intro i hi
        unfold setAt
        rw [if_neg (by omega), if_neg (by omega)]
        exact h2 i (by omega)
    simp [cnt, e]

/-- the count of a node is half that of each of its parts, together; each of these is even -/
theorem cnt_node (h : Wf N top last) {f : Int} {n : Nd} (hn : N f = some n) : ∀ (k : Nat) (l : Int) (a : Int → Bool), l ≤ n.lv → n.lv < l + k →
    2 * cnt (E N f) k l a = cnt (E N n.lo) k l a + cnt (E N n.hi) k l a ∧ cnt (E N n.lo) k l a % 2 = 0 ∧ cnt (E N n.hi) k l a % 2 = 0
  | 0, l, a, h1, h2 => by omega
  | k + 1, l, a, h1, h2 => by
    by_cases e : n.lv = l
    · have dep : ∀ {g : Int}, Ok N (n.lv + 1) g → ∀ a b : Int → Bool, (∀ i, n.lv + 1 ≤ i → a i = b i) → E N g a = E N g b := fun hg a b hab => E_indep h hg a b hab
      have sw : ∀ {g : Int}, Ok N (n.lv + 1) g → cnt (E N g) k (l + 1) (setAt a l true) = cnt (E N g) k (l + 1) (setAt a l false) := by
        intro g hg
        apply cnt_agree (v := n.lv + 1) (fun a b hab => dep hg a b hab) k (l + 1) _ _ (by omega)
        · intro i hi hlt; omega
        · intro i hi; unfold setAt; rw [if_neg (by omega), if_neg (by omega)]
      have fs : ∀ (v : Bool) (j : Nat) (l' : Int) (b : Int → Bool), n.lv < l' → b n.lv = v → cnt (E N f) j l' b = cnt (E N (if v then n.hi else n.lo)) j l' b := by
        intro v j
        induction j with
        | zero =>
          intro l' b hl' hb
          simp only [cnt]
          rw [E_node h hn, hb]
          cases v <;> simp
        | succ j ih =>
          intro l' b hl' hb
          simp only [cnt]
          rw [ih _ _ (by omega) (by unfold setAt; rw [if_neg (by omega)]; exact hb), ih _ _ (by omega) (by unfold setAt; rw [if_neg (by omega)]; exact hb)]
      have f1 := fs true k (l + 1) (setAt a l true) (by omega) (by simp [setAt, e])
      have f0 := fs false k (l + 1) (setAt a l false) (by omega) (by simp [setAt, e])
      have s1 := sw (h.lo f n hn)
      have s2 := sw (h.hi f n hn)
      simp only [cnt]
      simp at f1 f0
      rw [f1, f0, s1, s2]
      omega
    · have h' := cnt_node h hn k (l + 1) (setAt a l false) (by omega) (by omega)
      have h'' := cnt_node h hn k (l + 1) (setAt a l true) (by omega) (by omega)
      simp only [cnt]
      omega

end Go.Proofs.YtmgjegokkbghlaaGreatDoor.Bdd
