/- How many nodes some functions have together, level by level: by names. Plain mathematics. -/
import Derived.Test.YtmgjegokkbghlaaGreatShape
namespace Go.Proofs.YtmgjegokkbghlaaGreat
open Go.RowKit Go.Maps Bdd

section
variable {N : Tab} {top last : Int}

/-- each once, in the order in which they come -/
def once : List Int → List Int → List Int
  | acc, [] => acc
  | acc, x :: r => once (if acc.contains x then acc else acc ++ [x]) r
theorem mem_once : ∀ (l acc : List Int) (x : Int), x ∈ once acc l ↔ x ∈ acc ∨ x ∈ l
  | [], acc, x => by simp [once]
  | y :: r, acc, x => by
    rw [once, mem_once r]
    by_cases h : acc.contains y = true
    · rw [if_pos h]
      have hy : y ∈ acc := by simpa using h
      constructor
      · rintro (h1 | h1)
        · exact Or.inl h1
        · exact Or.inr (by simp [h1])
      · rintro (h1 | h1)
        · exact Or.inl h1
        · rcases List.mem_cons.1 h1 with rfl | h1
          · exact Or.inl hy
          · exact Or.inr h1
    · rw [if_neg h]
      simp only [List.mem_append, List.mem_cons, List.not_mem_nil, or_false]
      constructor
      · rintro ((h1 | h1) | h1)
        · exact Or.inl h1
        · exact Or.inr (Or.inl h1)
        · exact Or.inr (Or.inr h1)
      · rintro (h1 | h1 | h1)
        · exact Or.inl (Or.inl h1)
        · exact Or.inl (Or.inr h1)
        · exact Or.inr h1
theorem once_nodup : ∀ (l acc : List Int), acc.Nodup → (once acc l).Nodup
  | [], acc, h => h
  | y :: r, acc, h => by
    rw [once]
    by_cases hc : acc.contains y = true
    · rw [if_pos hc]; exact once_nodup r acc h
    · rw [if_neg hc]
      refine once_nodup r _ ?_
      have hy : y ∉ acc := fun hin => hc (by simpa using hin)
      rw [List.nodup_append]
      refine ⟨h, by simp, fun a ha b hb e => ?_⟩
      simp at hb
      subst hb
      subst e
      exact hy ha

/-- what comes of some functions at the next level -/
def nextN (N : Tab) (k : Int) (nm : List Int) : List Int := once [] (nm.flatMap fun x => [part N x k false, part N x k true])
/-- those that ask this level -/
def atLv (N : Tab) (k : Int) (nm : List Int) : List Int := nm.filter fun x => lvl N x == k
def total (N : Tab) : Nat → Int → List Int → Nat
  | 0, _, _ => 0
  | d + 1, k, nm => (atLv N k nm).length + total N d (k + 1) (nextN N k nm)

theorem mem_next {k x : Int} {nm : List Int} : x ∈ nextN N k nm ↔ ∃ y ∈ nm, x = part N y k false ∨ x = part N y k true := by
  unfold nextN
  rw [mem_once]
  simp only [List.not_mem_nil, false_or, List.mem_flatMap, List.mem_cons, or_false]
theorem lvl_at {h : Wf N top last} {k y : Int} (hy : Ok N k y) (hk : lvl N y = k) (hk8 : k ≤ 8) : ∃ n, N y = some n ∧ n.lv = k ∧ part N y k false = n.lo ∧ part N y k true = n.hi := by
  rcases hy with rfl | rfl | ⟨n, hn, hl⟩
  · simp only [lvl, h.zero] at hk; omega
  · simp only [lvl, h.onee] at hk; omega
  · simp only [lvl, hn] at hk
    exact ⟨n, hn, hk, by simp [part, hn, hk], by simp [part, hn, hk]⟩
theorem lvl_off {k y : Int} (hk : lvl N y ≠ k) (b : Bool) : part N y k b = y := by
  unfold part
  cases hn : N y with
  | none => rfl
  | some n =>
    have : n.lv ≠ k := by simpa [lvl, hn] using hk
    simp [this]

/-- THE NODES OF SOME FUNCTIONS, COUNTED LEVEL BY LEVEL -/
theorem count_names (h : Wf N top last) : ∀ (d : Nat) (k : Int) (nm : List Int), 0 ≤ k → k + (d : Int) ≤ 8 → top ≤ k + (d : Int) → nm.Nodup → (∀ y ∈ nm, Ok N k y) →
    ∃ l : List Int, l.Nodup ∧ l.length = total N d k nm ∧ (∀ x, x ∈ l ↔ ∃ y ∈ nm, Rch N y x) ∧ ∀ x ∈ l, ∃ n, N x = some n ∧ k ≤ n.lv := by
  intro d
  induction d with
  | zero =>
    intro k nm h0 h8 ht _ hok
    refine ⟨[], List.nodup_nil, rfl, fun x => ?_, by simp⟩
    constructor
    · intro hx; simp at hx
    · rintro ⟨y, hy, hr⟩
      rcases hok y hy with e | e | ⟨n, hn, hl⟩
      · exact absurd hr (rch_const h (Or.inl e))
      · exact absurd hr (rch_const h (Or.inr e))
      · have := h.lv y n hn; omega
  | succ d ih =>
    intro k nm h0 h8 ht hnd hok
    have hnext : ∀ y ∈ nextN N k nm, Ok N (k + 1) y := by
      intro y hy
      obtain ⟨z, hz, e | e⟩ := mem_next.1 hy
      · rw [e]; exact part_ok h (hok z hz) false
      · rw [e]; exact part_ok h (hok z hz) true
    obtain ⟨l, h1, h2, h3, h4⟩ := ih (k + 1) (nextN N k nm) (by omega) (by omega) (by omega) (once_nodup _ _ List.nodup_nil) hnext
    have hmem : ∀ x, x ∈ atLv N k nm ↔ x ∈ nm ∧ lvl N x = k := fun x => by simp [atLv]
    refine ⟨atLv N k nm ++ l, ?_, ?_, fun x => ?_, fun x hx => ?_⟩
    · rw [List.nodup_append]
      refine ⟨hnd.filter _, h1, fun x hx y hy e => ?_⟩
      subst e
      obtain ⟨n, hn, hl⟩ := h4 x hy
      have := ((hmem x).1 hx).2
      simp only [lvl, hn] at this
      omega
    · rw [List.length_append, h2, total]
    · rw [List.mem_append, hmem, h3]
      constructor
      · rintro (⟨hx, hl⟩ | ⟨y, hy, hr⟩)
        · obtain ⟨n, hn, _⟩ := lvl_at (h := h) (hok x hx) hl (by omega)
          exact ⟨x, hx, Rch.self hn⟩
        · obtain ⟨z, hz, e⟩ := mem_next.1 hy
          refine ⟨z, hz, ?_⟩
          by_cases hl : lvl N z = k
          · obtain ⟨n, hn, _, e0, e1⟩ := lvl_at (h := h) (hok z hz) hl (by omega)
            rcases e with e | e
            · rw [e, e0] at hr; exact Rch.lo hn hr
            · rw [e, e1] at hr; exact Rch.hi hn hr
          · rcases e with e | e
            · rw [e, lvl_off hl] at hr; exact hr
            · rw [e, lvl_off hl] at hr; exact hr
      · rintro ⟨y, hy, hr⟩
        by_cases hl : lvl N y = k
        · obtain ⟨n, hn, _, e0, e1⟩ := lvl_at (h := h) (hok y hy) hl (by omega)
          rcases (rch_at hn).1 hr with e | hr | hr
          · exact Or.inl ⟨e ▸ hy, e ▸ hl⟩
          · exact Or.inr ⟨n.lo, mem_next.2 ⟨y, hy, Or.inl e0.symm⟩, hr⟩
          · exact Or.inr ⟨n.hi, mem_next.2 ⟨y, hy, Or.inr e1.symm⟩, hr⟩
        · exact Or.inr ⟨y, mem_next.2 ⟨y, hy, Or.inl (lvl_off hl _).symm⟩, hr⟩
    · rcases List.mem_append.1 hx with hx | hx
      · obtain ⟨h5, h6⟩ := (hmem x).1 hx
        obtain ⟨n, hn, hl, _⟩ := lvl_at (h := h) (hok x h5) h6 (by omega)
        exact ⟨n, hn, by omega⟩
      · obtain ⟨n, hn, hl⟩ := h4 x hx
        exact ⟨n, hn, by omega⟩

/-- what hangs on a level is what asks it -/
theorem hangs_iff (h : Wf N top last) {k y : Int} (hy : Ok N k y) (h0 : 0 ≤ k) (hk8 : k ≤ 8) : (∃ a, E N y (setAt a k true) ≠ E N y (setAt a k false)) ↔ lvl N y = k := by
  constructor
  · rintro ⟨a, ha⟩
    by_cases hl : lvl N y = k
    · exact hl
    · exfalso
      have hge := lvl_ge h hy hk8
      have hok : Ok N (k + 1) y := ok_lvl hy (by omega)
      exact ha (by rw [E_setAt h hok (by omega), E_setAt h hok (by omega)])
  · intro hl
    obtain ⟨n, hn, hlv, _⟩ := lvl_at (h := h) hy hl hk8
    subst hlv
    have hlo := h.lo y n hn
    have hhi := h.hi y n hn
    false_or_by_contra
    rename_i hno
    refine h.ne y n hn ((canon_iff h (hlo.mono (by omega)) (hhi.mono (by omega))).2 (fun a => ?_))
    have h1 : E N y (setAt a n.lv true) = E N n.hi a := by rw [E_node h hn, if_pos (by simp [setAt]), E_setAt h hhi (by omega)]
    have h2 : E N y (setAt a n.lv false) = E N n.lo a := by rw [E_node h hn, if_neg (by simp [setAt]), E_setAt h hlo (by omega)]
    false_or_by_contra
    rename_i hne
    exact hno ⟨a, by rw [h1, h2]; exact fun e => hne e.symm⟩
/-- a function with a level given -/
theorem part_given (h : Wf N top last) {k y : Int} (hy : Ok N k y) (b : Bool) (a : Int → Bool) : E N (part N y k b) a = E N y (setAt a k b) := by
  have h1 := part_E h (m := k) (f := y) (setAt a k b)
  have e : setAt a k b k = b := by simp [setAt]
  rw [e] at h1
  rw [h1]
  exact (E_setAt h (part_ok h hy b) (by omega) b a).symm
end

end Go.Proofs.YtmgjegokkbghlaaGreat
