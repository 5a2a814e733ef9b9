/- What a machine of states can come to, level by level: plain mathematics. No program, no model. -/
namespace Go.Proofs.YtmgjegokkbghlaaGreatDoor.Runs

structure Sys where
  S : Nat
  I : Nat
  first : Nat → Bool
  step : Nat → Nat → Nat
  bad : Nat → Nat → Bool

/-- what so many steps reach, but no fewer; and what fewer reach -/
def lv (M : Sys) : Nat → (Nat → Prop) × (Nat → Prop)
  | 0 => (fun s => s < M.S ∧ M.first s = true, fun _ => False)
  | k + 1 => (fun t => (t < M.S ∧ ∃ s i, (lv M k).1 s ∧ i < M.I ∧ M.step s i = t) ∧ ¬ (lv M k).2 t ∧ ¬ (lv M k).1 t, fun t => (lv M k).2 t ∨ (lv M k).1 t)
def lev (M : Sys) (k s : Nat) : Prop := (lv M k).1 s
def bef (M : Sys) (k s : Nat) : Prop := (lv M k).2 s
theorem lev_zero {M : Sys} {s : Nat} : lev M 0 s ↔ s < M.S ∧ M.first s = true := Iff.rfl
theorem lev_succ {M : Sys} {k t : Nat} : lev M (k + 1) t ↔ (t < M.S ∧ ∃ s i, lev M k s ∧ i < M.I ∧ M.step s i = t) ∧ ¬ bef M (k + 1) t :=
  ⟨fun h => ⟨h.1, fun h' => h'.elim h.2.1 h.2.2⟩, fun h => ⟨h.1, fun h' => h.2 (Or.inl h'), fun h' => h.2 (Or.inr h')⟩⟩
theorem bef_succ {M : Sys} {k t : Nat} : bef M (k + 1) t ↔ bef M k t ∨ lev M k t := Iff.rfl
theorem bef_zero {M : Sys} {t : Nat} : ¬ bef M 0 t := fun h => h
theorem bef_iff {M : Sys} {t : Nat} : ∀ {k : Nat}, bef M k t ↔ ∃ j, j < k ∧ lev M j t
  | 0 => ⟨fun h => (bef_zero h).elim, fun ⟨j, h, _⟩ => by omega⟩
  | k + 1 => by
    rw [bef_succ, bef_iff (k := k)]
    constructor
    · rintro (⟨j, h1, h2⟩ | h)
      · exact ⟨j, by omega, h2⟩
      · exact ⟨k, by omega, h⟩
    · rintro ⟨j, h1, h2⟩
      by_cases e : j = k
      · subst e; exact Or.inr h2
      · exact Or.inl ⟨j, by omega, h2⟩
theorem lev_lt {M : Sys} {k s : Nat} (h : lev M k s) : s < M.S := by
  cases k with
  | zero => exact h.1
  | succ k => exact (lev_succ.1 h).1.1
theorem lev_disj {M : Sys} {j k s : Nat} (h : lev M j s) (h' : lev M k s) : j = k := by
  have key : ∀ {a b}, lev M a s → lev M b s → a < b → False := by
    intro a b ha hb hlt
    cases b with
    | zero => omega
    | succ b => exact (lev_succ.1 hb).2 (bef_iff.2 ⟨a, by omega, ha⟩)
  rcases Nat.lt_trichotomy j k with e | e | e
  · exact (key h h' e).elim
  · exact e
  · exact (key h' h e).elim
theorem lev_prev {M : Sys} {k t : Nat} (h : lev M (k + 1) t) : ∃ s i, lev M k s ∧ i < M.I ∧ M.step s i = t := (lev_succ.1 h).1.2
theorem lev_back {M : Sys} {k t : Nat} (h : lev M k t) : ∀ j, j ≤ k → ∃ s, lev M j s := by
  induction k generalizing t with
  | zero => intro j hj; obtain rfl : j = 0 := by omega
            exact ⟨t, h⟩
  | succ k ih =>
    intro j hj
    by_cases e : j = k + 1
    · subst e; exact ⟨t, h⟩
    · obtain ⟨s, i, hs, _, _⟩ := lev_prev h
      exact ih hs j (by omega)
theorem nodup_le : ∀ (S : Nat) (l : List Nat), l.Nodup → (∀ x ∈ l, x < S) → l.length ≤ S
  | 0, l, _, h => by
    cases l with
    | nil => simp
    | cons x r => have := h x (by simp); omega
  | S + 1, l, hn, h => by
    by_cases hm : S ∈ l
    · have := nodup_le S (l.erase S) (hn.erase _) (fun x hx => by
        have h1 := (hn.mem_erase_iff).1 hx
        have h2 := h x h1.2
        omega)
      rw [List.length_erase_of_mem hm] at this
      omega
    · have := nodup_le S l hn (fun x hx => by
        have := h x hx
        by_cases e : x = S
        · subst e; exact absurd hx hm
        · omega)
      omega
theorem lev_few {M : Sys} {k t : Nat} (h : lev M k t) : k < M.S := by
  have key : ∀ n, n ≤ k + 1 → ∃ l : List Nat, l.length = n ∧ l.Nodup ∧ ∀ x ∈ l, ∃ j, j < n ∧ lev M j x := by
    intro n
    induction n with
    | zero => intro _; exact ⟨[], rfl, List.nodup_nil, by simp⟩
    | succ n ih =>
      intro hn
      obtain ⟨l, h1, h2, h3⟩ := ih (by omega)
      obtain ⟨s, hs⟩ := lev_back h n (by omega)
      refine ⟨s :: l, by simp [h1], ?_, ?_⟩
      · rw [List.nodup_cons]
        refine ⟨fun hm => ?_, h2⟩
        obtain ⟨j, hj, hl⟩ := h3 s hm
        have := lev_disj hl hs
        omega
      · intro x hx
        rcases List.mem_cons.1 hx with rfl | hx
        · exact ⟨n, by omega, hs⟩
        · obtain ⟨j, hj, hl⟩ := h3 x hx
          exact ⟨j, by omega, hl⟩
  obtain ⟨l, h1, h2, h3⟩ := key (k + 1) (Nat.le_refl _)
  have := nodup_le M.S l h2 (fun x hx => by obtain ⟨j, _, hl⟩ := h3 x hx; exact lev_lt hl)
  omega
theorem lev_none {M : Sys} {k : Nat} (h : ∀ s, ¬ lev M k s) {j : Nat} (hj : k ≤ j) (s : Nat) : ¬ lev M j s := fun hl => by
  obtain ⟨s', h'⟩ := lev_back hl k hj
  exact h s' h'

def BadAt (M : Sys) (k : Nat) : Prop := ∃ s i, lev M k s ∧ i < M.I ∧ M.bad s i = true
def after (M : Sys) (s : Nat) : List Nat → Nat
  | [] => s
  | i :: r => after M (M.step s i) r
theorem after_append (M : Sys) (s : Nat) (l r : List Nat) : after M s (l ++ r) = after M (after M s l) r := by
  induction l generalizing s with
  | nil => rfl
  | cons x l ih => simp [after, ih]
def Rd (M : Sys) (s : Nat) : Prop := ∃ k, lev M k s
open Classical in
noncomputable def howMany (M : Sys) : Nat := (List.range M.S).countP fun s => decide (Rd M s)

/-- WHAT MAY BE TOLD of a machine -/
structure Told (M : Sys) (k s0 : Nat) (is : List Nat) : Prop where
  bad : BadAt M k
  least : ∀ j, j < k → ¬ BadAt M j
  lt : s0 < M.S
  first : M.first s0 = true
  len : is.length = k + 1
  ins : ∀ i ∈ is, i < M.I
  ends : M.bad (after M s0 (is.take k)) (is.getD k 0) = true

theorem first_bad {M : Sys} {k : Nat} (h : BadAt M k) : ∃ k', BadAt M k' ∧ ∀ j, j < k' → ¬ BadAt M j := by
  have key : ∀ n, (∃ k, k ≤ n ∧ BadAt M k) → ∃ k', BadAt M k' ∧ ∀ j, j < k' → ¬ BadAt M j := by
    intro n
    induction n with
    | zero => rintro ⟨k, hk, hb⟩; exact ⟨k, hb, fun j hj => by omega⟩
    | succ n ih =>
      rintro ⟨k, hk, hb⟩
      by_cases hex : ∃ k, k ≤ n ∧ BadAt M k
      · exact ih hex
      · refine ⟨k, hb, fun j hj hbj => hex ⟨j, by omega, hbj⟩⟩
  exact key k ⟨k, Nat.le_refl _, h⟩

/-! ### the steps to a state, written into a list -/
/-- phase k (from 1 on): the pairs P have been looked at -/
def FarIs (M : Sys) (k : Nat) (P : Nat → Nat → Prop) (far : Nat → Nat) : Prop :=
  ∀ t, t < M.S → (∀ j, j < k → (far t = j + 1 ↔ lev M j t)) ∧ (far t = k + 1 ↔ ¬ bef M k t ∧ ∃ s i, P s i ∧ lev M (k - 1) s ∧ i < M.I ∧ M.step s i = t) ∧ far t ≤ k + 1
theorem FarIs.zero {M : Sys} {k : Nat} {P : Nat → Nat → Prop} {far : Nat → Nat} (h : FarIs M k P far) {t : Nat} (ht : t < M.S) : far t = 0 ↔ ¬ bef M k t ∧ ¬ ∃ s i, P s i ∧ lev M (k - 1) s ∧ i < M.I ∧ M.step s i = t := by
  obtain ⟨h1, h2, h3⟩ := h t ht
  constructor
  · intro h0
    have hb : ¬ bef M k t := fun hb => by
      obtain ⟨j, hj, hl⟩ := bef_iff.1 hb
      have := (h1 j hj).2 hl
      omega
    exact ⟨hb, fun hex => by have := h2.2 ⟨hb, hex⟩; omega⟩
  · rintro ⟨hb, hn⟩
    rcases Nat.eq_zero_or_pos (far t) with e | e
    · exact e
    · exfalso
      by_cases hk : far t = k + 1
      · exact hn (h2.1 hk).2
      · have hj : far t - 1 < k := by omega
        have := (h1 (far t - 1) hj).1 (by omega)
        exact hb (bef_iff.2 ⟨_, hj, this⟩)
theorem FarIs.look {M : Sys} {k : Nat} {P : Nat → Nat → Prop} {far : Nat → Nat} (h : FarIs M k P far) (hk : 1 ≤ k) {t : Nat} (ht : t < M.S) : far t = k ↔ lev M (k - 1) t := by
  have := (h t ht).1 (k - 1) (by omega)
  rw [← this]
  omega
theorem FarIs.start (M : Sys) (far : Nat → Nat) (h : ∀ t, t < M.S → far t = if M.first t then 1 else 0) : FarIs M 1 (fun _ _ => False) far := by
  intro t ht
  refine ⟨fun j hj => ?_, ?_, ?_⟩
  · obtain rfl : j = 0 := by omega
    rw [h t ht, lev_zero]
    cases M.first t <;> simp [ht]
  · rw [h t ht]
    constructor
    · intro e; split at e <;> omega
    · rintro ⟨_, s, i, hf, _⟩; exact hf.elim
  · rw [h t ht]; split <;> omega
/-- all pairs have been looked at: the next phase -/
theorem FarIs.next {M : Sys} {k : Nat} {P : Nat → Nat → Prop} {far : Nat → Nat} (h : FarIs M k P far) (hk : 1 ≤ k) (hP : ∀ s i, lev M (k - 1) s → i < M.I → P s i) : FarIs M (k + 1) (fun _ _ => False) far := by
  obtain ⟨k, rfl⟩ : ∃ k', k = k' + 1 := ⟨k - 1, by omega⟩
  intro t ht
  obtain ⟨h1, h2, h3⟩ := h t ht
  refine ⟨fun j hj => ?_, ?_, by omega⟩
  · by_cases e : j = k + 1
    · subst e
      rw [h2, lev_succ]
      constructor
      · rintro ⟨hb, s, i, _, hl, hi, hs⟩
        exact ⟨⟨ht, s, i, hl, hi, hs⟩, hb⟩
      · rintro ⟨⟨_, s, i, hl, hi, hs⟩, hb⟩
        exact ⟨hb, s, i, hP s i hl hi, hl, hi, hs⟩
    · exact h1 j (by omega)
  · constructor
    · intro e; omega
    · rintro ⟨_, s, i, hf, _⟩; exact hf.elim
/-- one pair more -/
theorem FarIs.pair {M : Sys} {k : Nat} {P : Nat → Nat → Prop} {far far' : Nat → Nat} (h : FarIs M k P far) {s i : Nat} (hl : lev M (k - 1) s) (hi : i < M.I)
    (hf : ∀ t, t < M.S → far' t = if t = M.step s i ∧ far t = 0 then k + 1 else far t) : FarIs M k (fun s' i' => P s' i' ∨ (s' = s ∧ i' = i)) far' := by
  intro t ht
  obtain ⟨h1, h2, h3⟩ := h t ht
  have hz := h.zero ht
  rw [hf t ht]
  by_cases e : t = M.step s i ∧ far t = 0
  · rw [if_pos e]
    have hz' := hz.1 e.2
    refine ⟨fun j hj => ⟨fun e' => by omega, fun hl' => absurd (bef_iff.2 ⟨j, hj, hl'⟩) hz'.1⟩, ⟨fun _ => ⟨hz'.1, s, i, Or.inr ⟨rfl, rfl⟩, hl, hi, e.1.symm⟩, fun _ => rfl⟩, Nat.le_refl _⟩
  · rw [if_neg e]
    refine ⟨h1, ?_, h3⟩
    rw [h2]
    constructor
    · rintro ⟨hb, s', i', hp, r⟩
      exact ⟨hb, s', i', Or.inl hp, r⟩
    · rintro ⟨hb, s', i', hp | ⟨rfl, rfl⟩, hl', hi', hs⟩
      · exact ⟨hb, s', i', hp, hl', hi', hs⟩
      · have hnz : far t ≠ 0 := fun h0 => e ⟨hs.symm, h0⟩
        have : ¬ (¬ bef M k t ∧ ¬ ∃ s i, P s i ∧ lev M (k - 1) s ∧ i < M.I ∧ M.step s i = t) := fun hh => hnz (hz.2 hh)
        by_cases hex : ∃ s i, P s i ∧ lev M (k - 1) s ∧ i < M.I ∧ M.step s i = t
        · exact ⟨hb, hex⟩
        · exact absurd ⟨hb, hex⟩ this
theorem FarIs.same {M : Sys} {k : Nat} {P P' : Nat → Nat → Prop} {far : Nat → Nat} (h : FarIs M k P far) (hP : ∀ s i, lev M (k - 1) s → i < M.I → (P s i ↔ P' s i)) : FarIs M k P' far := by
  intro t ht
  obtain ⟨h1, h2, h3⟩ := h t ht
  refine ⟨h1, h2.trans ?_, h3⟩
  constructor
  · rintro ⟨hb, s, i, hp, hl, hi, hs⟩; exact ⟨hb, s, i, (hP s i hl hi).1 hp, hl, hi, hs⟩
  · rintro ⟨hb, s, i, hp, hl, hi, hs⟩; exact ⟨hb, s, i, (hP s i hl hi).2 hp, hl, hi, hs⟩
theorem FarIs.reached {M : Sys} {far : Nat → Nat} (h : FarIs M (M.S + 1) (fun _ _ => False) far) {t : Nat} (ht : t < M.S) : 0 < far t ↔ Rd M t := by
  have hz := h.zero ht
  constructor
  · intro hp
    by_cases hb : bef M (M.S + 1) t
    · obtain ⟨j, _, hl⟩ := bef_iff.1 hb; exact ⟨j, hl⟩
    · have := hz.2 ⟨hb, fun ⟨_, _, hf, _⟩ => hf⟩; omega
  · rintro ⟨k, hl⟩
    have := lev_few hl
    have := ((h t ht).1 k (by omega)).2 hl
    omega

/-! ### a run, moment by moment -/
def Chain (M : Sys) : List (Nat × Nat) → Prop
  | [] => False
  | [p] => p.2 < M.I ∧ M.bad p.1 p.2 = true
  | p :: q :: r => p.2 < M.I ∧ M.step p.1 p.2 = q.1 ∧ Chain M (q :: r)
theorem Chain.cons {M : Sys} {p q : Nat × Nat} {r : List (Nat × Nat)} (h1 : p.2 < M.I) (h2 : M.step p.1 p.2 = q.1) (h : Chain M (q :: r)) : Chain M (p :: q :: r) := ⟨h1, h2, h⟩
theorem Chain.ins {M : Sys} : ∀ {l : List (Nat × Nat)}, Chain M l → ∀ p ∈ l, p.2 < M.I
  | [], h, _, _ => h.elim
  | [p], h, x, hx => by simp at hx; subst hx; exact h.1
  | p :: q :: r, h, x, hx => by
    rcases List.mem_cons.1 hx with rfl | hx
    · exact h.1
    · exact Chain.ins h.2.2 x hx
theorem Chain.ends {M : Sys} : ∀ {p : Nat × Nat} {l : List (Nat × Nat)}, Chain M (p :: l) → M.bad (after M p.1 (((p :: l).map (·.2)).take l.length)) (((p :: l).map (·.2)).getD l.length 0) = true
  | p, [], h => by simpa [after] using h.2
  | p, q :: r, h => by
    have := Chain.ends h.2.2
    simp only [List.map_cons, List.length_cons, List.take_succ_cons, after, List.getD_cons_succ] at this ⊢
    rw [h.2.1]
    exact this
theorem Chain.told {M : Sys} {k : Nat} {p : Nat × Nat} {l : List (Nat × Nat)} (h : Chain M (p :: l)) (hl : l.length = k) (hb : BadAt M k) (hm : ∀ j, j < k → ¬ BadAt M j) (h0 : lev M 0 p.1) : Told M k p.1 ((p :: l).map (·.2)) :=
  ⟨hb, hm, (lev_zero.1 h0).1, (lev_zero.1 h0).2, by simp [hl], fun i hi => by
    obtain ⟨q, hq, rfl⟩ := List.mem_map.1 hi
    exact h.ins q hq, by have := h.ends; rw [hl] at this; exact this⟩
theorem no_bad {M : Sys} {n : Nat} (hn : ∀ s, ¬ lev M n s) (h : ∀ j, j < n → ¬ BadAt M j) (j : Nat) : ¬ BadAt M j := by
  by_cases hj : j < n
  · exact h j hj
  · rintro ⟨s, i, hs, _⟩
    exact lev_none hn (by omega) s hs
theorem rd_iff {M : Sys} {n : Nat} (hn : ∀ s, ¬ lev M n s) (s : Nat) : Rd M s ↔ bef M n s := by
  rw [bef_iff]
  constructor
  · rintro ⟨k, hk⟩
    refine ⟨k, ?_, hk⟩
    by_cases h : k < n
    · exact h
    · exact absurd hk (lev_none hn (by omega) s)
  · rintro ⟨k, _, hk⟩; exact ⟨k, hk⟩

end Go.Proofs.YtmgjegokkbghlaaGreatDoor.Runs
