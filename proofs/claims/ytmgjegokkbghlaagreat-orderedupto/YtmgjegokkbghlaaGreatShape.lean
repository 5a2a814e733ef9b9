/- Which nodes some functions have: all variables at once, an odd number of them. -/
import Derived.Test.YtmgjegokkbghlaaGreatExis
namespace Go.Proofs.YtmgjegokkbghlaaGreat
open Go.RowKit Go.Maps Bdd

/-- what asks level j first, and hangs on nothing ahead of it -/
theorem shape {N : Tab} {top last : Int} (h : Wf N top last) {f j : Int} (hf : Ok N 0 f) (hlow : ∀ i a v, i < j → E N f (setAt a i v) = E N f a) (hdep : ∃ a, E N f (setAt a j true) ≠ E N f (setAt a j false)) :
    ∃ n, N f = some n ∧ n.lv = j ∧ (∀ a, E N n.hi a = E N f (setAt a j true)) ∧ (∀ a, E N n.lo a = E N f (setAt a j false)) := by
  obtain ⟨a0, ha0⟩ := hdep
  have hn : ∃ n, N f = some n := by
    rcases hf with rfl | rfl | ⟨n, hn, _⟩
    · exact absurd (by rw [E_zero h, E_zero h]) ha0
    · exact absurd (by rw [E_one h, E_one h]) ha0
    · exact ⟨n, hn⟩
  obtain ⟨n, hn⟩ := hn
  have hlo := h.lo f n hn
  have hhi := h.hi f n hn
  have hlv := h.lv f n hn
  have eh : ∀ a, E N f (setAt a n.lv true) = E N n.hi a := fun a => by
    rw [E_node h hn, if_pos (by simp [setAt]), E_setAt h hhi (by omega)]
  have el : ∀ a, E N f (setAt a n.lv false) = E N n.lo a := fun a => by
    rw [E_node h hn, if_neg (by simp [setAt]), E_setAt h hlo (by omega)]
  have e : n.lv = j := by
    rcases Int.lt_trichotomy n.lv j with hlt | he | hgt
    · exfalso
      refine h.ne f n hn ((canon_iff h (hlo.mono (by omega)) (hhi.mono (by omega))).2 (fun a => ?_))
      rw [← eh, ← el, hlow _ _ _ hlt, hlow _ _ _ hlt]
    · exact he
    · exfalso
      have hok : Ok N (j + 1) f := Or.inr (Or.inr ⟨n, hn, by omega⟩)
      exact ha0 (by rw [E_setAt h hok (by omega), E_setAt h hok (by omega)])
  subst e
  exact ⟨n, hn, rfl, fun a => (eh a).symm, fun a => (el a).symm⟩
theorem const_of {N : Tab} {top last : Int} (h : Wf N top last) {f : Int} (hf : Ok N 0 f) (b : Bool) (hE : ∀ a, E N f a = b) : f = if b then 1 else 0 := by
  cases b
  · exact (canon_iff h hf (ok_zero _)).2 (fun a => by rw [hE, E_zero h])
  · exact (canon_iff h hf (ok_one _)).2 (fun a => by rw [hE, E_one h])
theorem rch_const {N : Tab} {top last : Int} (h : Wf N top last) {f x : Int} (hf : f = 0 ∨ f = 1) : ¬ Rch N f x := by
  have hn := h.none_of hf
  intro hr
  cases hr with
  | self e => rw [hn] at e; cases e
  | lo e _ => rw [hn] at e; cases e
  | hi e _ => rw [hn] at e; cases e
theorem rch_at {N : Tab} {f x : Int} {n : Nd} (hn : N f = some n) : Rch N f x ↔ x = f ∨ Rch N n.lo x ∨ Rch N n.hi x := by
  constructor
  · intro hr
    cases hr with
    | self _ => exact Or.inl rfl
    | lo e h => rw [hn] at e; cases e; exact Or.inr (Or.inl h)
    | hi e h => rw [hn] at e; cases e; exact Or.inr (Or.inr h)
  · rintro (rfl | h | h)
    · exact Rch.self hn
    · exact Rch.lo hn h
    · exact Rch.hi hn h

/-- all of those from j on, d of them -/
def andF : Nat → Int → (Int → Bool) → Bool
  | 0, _, _ => true
  | d + 1, j, a => a j && andF d (j + 1) a
/-- an odd number of them, or (b) an even one -/
def parF : Nat → Int → Bool → (Int → Bool) → Bool
  | 0, _, b, _ => b
  | d + 1, j, b, a => parF d (j + 1) (b != a j) a
theorem andF_low : ∀ (d : Nat) (j i : Int) (a : Int → Bool) (v : Bool), i < j → andF d j (setAt a i v) = andF d j a
  | 0, _, _, _, _, _ => rfl
  | d + 1, j, i, a, v, h => by
    have e : setAt a i v j = a j := by unfold setAt; rw [if_neg (by omega)]
    simp only [andF, andF_low d (j + 1) i a v (by omega), e]
theorem parF_low : ∀ (d : Nat) (j i : Int) (b : Bool) (a : Int → Bool) (v : Bool), i < j → parF d j b (setAt a i v) = parF d j b a
  | 0, _, _, _, _, _, _ => rfl
  | d + 1, j, i, b, a, v, h => by
    have e : setAt a i v j = a j := by unfold setAt; rw [if_neg (by omega)]
    simp only [parF, parF_low d (j + 1) i _ a v (by omega), e]
theorem andF_true : ∀ (d : Nat) (j : Int), andF d j (fun _ => true) = true
  | 0, _ => rfl
  | d + 1, j => by simp [andF, andF_true d]
theorem parF_not : ∀ (d : Nat) (j : Int) (b : Bool) (a : Int → Bool), parF d j (!b) a = !parF d j b a
  | 0, _, _, _ => rfl
  | d + 1, j, b, a => by
    simp only [parF]
    have : ((!b) != a j) = !(b != a j) := by cases b <;> cases a j <;> rfl
    rw [this, parF_not d]

section
variable {N : Tab} {top last : Int}
/-- the step of an and -/
theorem and_step (h : Wf N top last) {f j : Int} {d : Nat} (hf : Ok N 0 f) (hE : ∀ a, E N f a = andF (d + 1) j a) : ∃ n, N f = some n ∧ n.lv = j ∧ n.lo = 0 ∧ Ok N 0 n.hi ∧ ∀ a, E N n.hi a = andF d (j + 1) a := by
  have hs : ∀ a v, setAt a j v j = v := fun a v => by simp [setAt]
  obtain ⟨n, hn, hl, e1, e0⟩ := shape h hf (j := j) (fun i a v hi => by rw [hE, hE, andF_low _ _ _ _ _ hi]) ⟨fun _ => true, by
    rw [hE, hE]
    simp only [andF, hs, andF_low d (j + 1) j _ _ (by omega), andF_true]
    simp⟩
  have hlv := h.lv f n hn
  have olo := (h.lo f n hn).mono (show (0 : Int) ≤ n.lv + 1 by omega)
  have ohi := (h.hi f n hn).mono (show (0 : Int) ≤ n.lv + 1 by omega)
  refine ⟨n, hn, hl, ?_, ohi, fun a => ?_⟩
  · have := const_of h olo false (fun a => by rw [e0, hE]; simp only [andF, hs]; rfl)
    simpa using this
  · rw [e1, hE]
    simp only [andF, hs, andF_low d (j + 1) j _ _ (by omega), Bool.true_and]
/-- the step of a parity -/
theorem par_step (h : Wf N top last) {f j : Int} {d : Nat} {b : Bool} (hf : Ok N 0 f) (hE : ∀ a, E N f a = parF (d + 1) j b a) : ∃ n, N f = some n ∧ n.lv = j ∧ Ok N 0 n.lo ∧ Ok N 0 n.hi ∧ (∀ a, E N n.lo a = parF d (j + 1) b a) ∧ ∀ a, E N n.hi a = parF d (j + 1) (!b) a := by
  have hs : ∀ a v, setAt a j v j = v := fun a v => by simp [setAt]
  obtain ⟨n, hn, hl, e1, e0⟩ := shape h hf (j := j) (fun i a v hi => by rw [hE, hE, parF_low _ _ _ _ _ _ hi]) ⟨fun _ => true, by
    rw [hE, hE]
    simp only [parF, hs, parF_low d (j + 1) j _ _ _ (by omega)]
    have e2 : (b != true) = !(b != false) := by cases b <;> rfl
    rw [e2, parF_not]
    cases parF d (j + 1) (b != false) fun _ => true <;> simp⟩
  have hlv := h.lv f n hn
  have olo := (h.lo f n hn).mono (show (0 : Int) ≤ n.lv + 1 by omega)
  have ohi := (h.hi f n hn).mono (show (0 : Int) ≤ n.lv + 1 by omega)
  refine ⟨n, hn, hl, olo, ohi, fun a => ?_, fun a => ?_⟩
  · rw [e0, hE]
    simp only [parF, hs, parF_low d (j + 1) j _ _ _ (by omega)]
    have : (b != false) = b := by cases b <;> rfl
    rw [this]
  · rw [e1, hE]
    simp only [parF, hs, parF_low d (j + 1) j _ _ _ (by omega)]
    have : (b != true) = !b := by cases b <;> rfl
    rw [this]

/-- the nodes of an and: all but the last, and the last -/
theorem and_nodes (h : Wf N top last) : ∀ (d : Nat) (j f : Int), Ok N 0 f → (∀ a, E N f a = andF (d + 1) j a) →
    ∃ (l : List Int) (z : Int), l.Nodup ∧ l.length = d ∧ (∀ x, Rch N f x ↔ x ∈ l ∨ x = z) ∧ z ∉ l ∧ Ok N 0 z ∧ (∀ a, E N z a = andF 1 (j + d) a) ∧
      (∀ x ∈ l, ∃ n, N x = some n ∧ j ≤ n.lv ∧ ∃ d', Ok N 0 x ∧ ∀ a, E N x a = andF (d' + 2) n.lv a) ∧ ∃ n, N z = some n ∧ n.lv = j + d := by
  intro d
  induction d with
  | zero =>
    intro j f hf hE
    obtain ⟨n, hn, hl, h0, ohi, e1⟩ := and_step h hf hE
    have hhi : n.hi = 1 := by simpa using const_of h ohi true (fun a => by rw [e1]; rfl)
    refine ⟨[], f, List.nodup_nil, rfl, fun x => ?_, by simp, hf, fun a => by rw [hE]; simp, by simp, n, hn, by simpa using hl⟩
    rw [rch_at hn]
    constructor
    · rintro (e | hr | hr)
      · exact Or.inr e
      · exact absurd hr (rch_const h (Or.inl h0))
      · exact absurd hr (rch_const h (Or.inr hhi))
    · rintro (hx | e)
      · simp at hx
      · exact Or.inl e
  | succ d ih =>
    intro j f hf hE
    obtain ⟨n, hn, hl, h0, ohi, e1⟩ := and_step h hf hE
    obtain ⟨l, z, h1, h2, h3, h4, h5, h6, h7, nz, hnz, hlz⟩ := ih (j + 1) n.hi ohi e1
    have hfl : f ∉ l := fun hin => by
      obtain ⟨m, hm, hlm, _⟩ := h7 f hin
      rw [hn] at hm; cases hm; omega
    have hfz : f ≠ z := fun e => by
      rw [← e, hn] at hnz; cases hnz; omega
    refine ⟨f :: l, z, List.nodup_cons.2 ⟨hfl, h1⟩, by simp [h2], fun x => ?_, ?_, h5, fun a => ?_, fun x hx => ?_, nz, hnz, by omega⟩
    · rw [rch_at hn]
      constructor
      · rintro (e | hr | hr)
        · exact Or.inl (by simp [e])
        · exact absurd hr (rch_const h (Or.inl h0))
        · rcases (h3 x).1 hr with hx | hx
          · exact Or.inl (by simp [hx])
          · exact Or.inr hx
      · rintro (hx | hx)
        · rcases List.mem_cons.1 hx with e | hx
          · exact Or.inl e
          · exact Or.inr (Or.inr ((h3 x).2 (Or.inl hx)))
        · exact Or.inr (Or.inr ((h3 x).2 (Or.inr hx)))
    · intro hin
      rcases List.mem_cons.1 hin with e | hin
      · exact hfz e.symm
      · exact h4 hin
    · rw [h6]
      have : j + 1 + (d : Int) = j + ((d + 1 : Nat) : Int) := by omega
      rw [this]
    · rcases List.mem_cons.1 hx with rfl | hx
      · exact ⟨n, hn, by omega, d, hf, fun a => by rw [hE, hl]⟩
      · obtain ⟨m, hm, hlm, d', o, he⟩ := h7 x hx
        exact ⟨m, hm, by omega, d', o, he⟩

/-- the nodes of a parity and of its contrary -/
theorem par_nodes (h : Wf N top last) : ∀ (d : Nat) (j p q : Int), Ok N 0 p → Ok N 0 q → (∀ a, E N p a = parF d j false a) → (∀ a, E N q a = parF d j true a) →
    ∃ l : List Int, l.Nodup ∧ l.length = 2 * d ∧ (∀ x, (Rch N p x ∨ Rch N q x) ↔ x ∈ l) ∧ (∀ x ∈ l, ∃ n, N x = some n ∧ j ≤ n.lv ∧ ∃ d' b, Ok N 0 x ∧ ∀ a, E N x a = parF (d' + 1) n.lv b a) ∧
      (∀ x (e : Nat) (b : Bool), e < d → Ok N 0 x → (∀ a, E N x a = parF (e + 1) (j + d - e - 1) b a) → x ∈ l) := by
  intro d
  induction d with
  | zero =>
    intro j p q hp hq ep eq
    have p0 : p = 0 := by simpa using const_of h hp false (fun a => by rw [ep]; rfl)
    have q1 : q = 1 := by simpa using const_of h hq true (fun a => by rw [eq]; rfl)
    refine ⟨[], List.nodup_nil, rfl, fun x => ?_, by simp, fun x e b he => by omega⟩
    constructor
    · rintro (hr | hr)
      · exact absurd hr (rch_const h (Or.inl p0))
      · exact absurd hr (rch_const h (Or.inr q1))
    · intro hx; simp at hx
  | succ d ih =>
    intro j p q hp hq ep eq
    obtain ⟨n, hn, hl, olo, ohi, el, eh⟩ := par_step h hp ep
    obtain ⟨m, hm, hlm, olo', ohi', el', eh'⟩ := par_step h hq eq
    have s1 : m.lo = n.hi := (canon_iff h olo' ohi).2 (fun a => by rw [el', eh]; rfl)
    have s2 : m.hi = n.lo := (canon_iff h ohi' olo).2 (fun a => by rw [eh', el]; rfl)
    obtain ⟨l, h1, h2, h3, h4, h5⟩ := ih (j + 1) n.lo n.hi olo ohi el eh
    have hpl : p ∉ l := fun hin => by
      obtain ⟨o, ho, hlo, _⟩ := h4 p hin
      rw [hn] at ho; cases ho; omega
    have hql : q ∉ l := fun hin => by
      obtain ⟨o, ho, hlo, _⟩ := h4 q hin
      rw [hm] at ho; cases ho; omega
    have hpq : p ≠ q := fun e => by
      have h0 := ep (fun _ => false)
      rw [e, eq] at h0
      have := parF_not (d + 1) j false (fun _ => false)
      rw [show (!false) = true from rfl, h0] at this
      cases parF (d + 1) j false fun _ => false <;> simp at this
    refine ⟨p :: q :: l, List.nodup_cons.2 ⟨by simp [hpq, hpl], List.nodup_cons.2 ⟨hql, h1⟩⟩, by simp [h2]; omega, fun x => ?_, fun x hx => ?_, fun x e b he ho hx => ?_⟩
    · rw [rch_at hn, rch_at hm, s1, s2]
      have := h3 x
      simp only [List.mem_cons]
      constructor
      · rintro ((e | hr | hr) | (e | hr | hr))
        · exact Or.inl e
        · exact Or.inr (Or.inr (this.1 (Or.inl hr)))
        · exact Or.inr (Or.inr (this.1 (Or.inr hr)))
        · exact Or.inr (Or.inl e)
        · exact Or.inr (Or.inr (this.1 (Or.inr hr)))
        · exact Or.inr (Or.inr (this.1 (Or.inl hr)))
      · rintro (e | e | hx)
        · exact Or.inl (Or.inl e)
        · exact Or.inr (Or.inl e)
        · rcases this.2 hx with hr | hr
          · exact Or.inl (Or.inr (Or.inl hr))
          · exact Or.inl (Or.inr (Or.inr hr))
    · simp only [List.mem_cons] at hx
      rcases hx with rfl | rfl | hx
      · exact ⟨n, hn, by omega, d, false, hp, fun a => by rw [ep, hl]⟩
      · exact ⟨m, hm, by omega, d, true, hq, fun a => by rw [eq, hlm]⟩
      · obtain ⟨o, ho, hlo, d', b, oo, he⟩ := h4 x hx
        exact ⟨o, ho, by omega, d', b, oo, he⟩
    · by_cases ed : e = d
      · subst ed
        have ej : j + ((e + 1 : Nat) : Int) - e - 1 = j := by omega
        rw [ej] at hx
        cases b with
        | false => have := (canon_iff h ho hp).2 (fun a => by rw [hx, ep]); simp [this]
        | true => have := (canon_iff h ho hq).2 (fun a => by rw [hx, eq]); simp [this]
      · have ej : j + ((d + 1 : Nat) : Int) - e - 1 = j + 1 + (d : Int) - e - 1 := by omega
        rw [ej] at hx
        have := h5 x e b (by omega) ho hx
        simp [this]
end

end Go.Proofs.YtmgjegokkbghlaaGreat
