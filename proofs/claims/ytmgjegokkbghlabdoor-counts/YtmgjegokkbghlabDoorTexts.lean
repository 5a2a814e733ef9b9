/- The circuits that Reached hands in, and what they come to: plain, by reckoning. -/
import Derived.Test.YtmgjegokkbghlabDoorCirc
namespace Go.Proofs.YtmgjegokkbghlabDoor
open Circ Gram Runs
set_option linter.unusedVariables false

/-! ### what is reached, by reckoning -/
def nextSet (M : Runs.Sys) (l : List Nat) : List Nat := l.flatMap fun s => (List.range M.I).map fun i => M.step s i
def setK (M : Runs.Sys) : Nat → List Nat
  | 0 => (List.range M.S).filter M.first
  | k + 1 => (List.range M.S).filter fun t => (setK M k).contains t || (nextSet M (setK M k)).contains t
theorem Rd_first {M : Runs.Sys} {s : Nat} (h : s < M.S) (hf : M.first s = true) : Rd M s := ⟨0, lev_zero.2 ⟨h, hf⟩⟩
theorem Rd_step {M : Runs.Sys} {s i : Nat} (h : Rd M s) (hi : i < M.I) (hl : M.step s i < M.S) : Rd M (M.step s i) := by
  obtain ⟨k, hk⟩ := h
  by_cases hb : bef M (k + 1) (M.step s i)
  · obtain ⟨j, _, hj⟩ := bef_iff.1 hb; exact ⟨j, hj⟩
  · exact ⟨k + 1, lev_succ.2 ⟨⟨hl, s, i, hk, hi, rfl⟩, hb⟩⟩
theorem Rd_ind {M : Runs.Sys} {P : Nat → Prop} (h0 : ∀ s, s < M.S → M.first s = true → P s) (h1 : ∀ s i, P s → i < M.I → P (M.step s i)) {s : Nat} (h : Rd M s) : P s := by
  obtain ⟨k, hk⟩ := h
  induction k generalizing s with
  | zero => exact h0 s (lev_zero.1 hk).1 (lev_zero.1 hk).2
  | succ k ih =>
    obtain ⟨t, i, ht, hi, rfl⟩ := lev_prev hk
    exact h1 t i (ih ht) hi
theorem mem_nextSet {M : Runs.Sys} {l : List Nat} {t : Nat} : t ∈ nextSet M l ↔ ∃ s i, s ∈ l ∧ i < M.I ∧ M.step s i = t := by
  unfold nextSet
  simp only [List.mem_flatMap, List.mem_map, List.mem_range]
  constructor
  · rintro ⟨s, hs, i, hi, e⟩; exact ⟨s, i, hs, hi, e⟩
  · rintro ⟨s, i, hs, hi, e⟩; exact ⟨s, hs, i, hi, e⟩
theorem setK_sound {M : Runs.Sys} : ∀ (k : Nat) {s : Nat}, s ∈ setK M k → s < M.S ∧ Rd M s
  | 0, s, h => by
    have h := List.mem_filter.1 h
    have hs : s < M.S := by simpa using h.1
    exact ⟨hs, Rd_first hs h.2⟩
  | k + 1, s, h => by
    have h := List.mem_filter.1 h
    have hs : s < M.S := by simpa using h.1
    refine ⟨hs, ?_⟩
    rcases Bool.or_eq_true_iff.1 h.2 with h2 | h2
    · exact (setK_sound k (by simpa using h2)).2
    · obtain ⟨t, i, ht, hi, e⟩ := mem_nextSet.1 (by simpa using h2)
      subst e
      exact Rd_step (setK_sound k ht).2 hi hs
def reachB (M : Runs.Sys) (k want : Nat) : Bool := ((List.range M.S).filter M.first).all (fun t => (setK M k).contains t) && (nextSet M (setK M k)).all (fun t => (setK M k).contains t) && ((List.range M.S).countP fun t => (setK M k).contains t) == want
open Classical in
theorem reachB_ok {M : Runs.Sys} {k want : Nat} (h : reachB M k want = true) : Runs.howMany M = want := by
  unfold reachB at h
  simp only [Bool.and_eq_true, List.all_eq_true, beq_iff_eq] at h
  obtain ⟨⟨h1, h2⟩, h3⟩ := h
  rw [← h3]
  unfold Runs.howMany
  refine List.countP_congr (fun s hs => ?_)
  have hs : s < M.S := by simpa using hs
  rw [decide_eq_true_iff]
  constructor
  · intro hr
    refine Rd_ind (P := fun s => (setK M k).contains s = true) (fun s hs hf => h1 s (List.mem_filter.2 ⟨by simpa using hs, hf⟩)) (fun s i hs hi => ?_) hr
    exact h2 _ (mem_nextSet.2 ⟨s, i, by simpa using hs, hi, rfl⟩)
  · intro hc
    exact (setK_sound k (by simpa using hc)).2
def safeB (M : Runs.Sys) : Bool := (List.range M.S).all fun s => (List.range M.I).all fun i => !M.bad s i
theorem safeB_ok {M : Runs.Sys} (h : safeB M = true) (j : Nat) : ¬ BadAt M j := by
  rintro ⟨s, i, hs, hi, hb⟩
  unfold safeB at h
  simp only [List.all_eq_true, List.mem_range] at h
  have := h s (lev_lt hs) i hi
  rw [hb] at this
  cases this

/-! ### the texts of Reached -/
def nmT (c : UInt8) (p k : Nat) : List UInt8 := [c, UInt8.ofNat (97 + p + k)]
def firR (how : Nat) : List UInt8 := if how = 1 then [63] else [48]
def comR (how p : Nat) : List UInt8 := if how = 2 then nmT 103 p 0 else [48]
def txtR (how p : Nat) : Nat → List UInt8 × List UInt8
  | 0 => ([105, 110, 32] ++ nmT 103 p 0 ++ [10, 98, 97, 100, 61] ++ nmT 108 p 0 ++ [38, 33] ++ nmT 108 p 0, comR how p)
  | k + 1 => ((txtR how p k).1 ++ [10, 108, 97, 116, 99, 104, 32] ++ nmT 108 p k ++ [32] ++ firR how ++ [10, 110, 101, 120, 116, 32] ++ nmT 108 p k ++ [61] ++ (txtR how p k).2, nmT 108 p k)
def wantR (how n : Nat) : Nat := if how = 0 then 1 else 2 ^ n
def goodR (how n : Nat) : Got → Bool
  | .ok ls => safeB (sysOf ls) && reachB (sysOf ls) n (wantR how n)
  | _ => false
def twiceR (n : Nat) : Got → Bool
  | .err k line => k == 8 && line == 3 + 2 * n
  | _ => false
set_option maxRecDepth 100000 in
theorem all_R : ∀ n, n < 5 → ∀ how, how < 3 → ∀ p, p < 20 → n = 0 ∨ (goodR how n (readP (txtR how p n).1) && twiceR n (readP ((txtR how p n).1 ++ [10, 98, 97, 100, 32, 61, 32, 49]))) = true := by decide +kernel
theorem read_R {n how p : Nat} (hn : 1 ≤ n) (hn4 : n ≤ 4) (hh : how < 3) (hp : p < 20) : (∃ ls, readP (txtR how p n).1 = .ok ls ∧ (∀ j, ¬ BadAt (sysOf ls) j) ∧ Runs.howMany (sysOf ls) = wantR how n) ∧ readP ((txtR how p n).1 ++ [10, 98, 97, 100, 32, 61, 32, 49]) = .err 8 (3 + 2 * n) := by
  have h := (all_R n (by omega) how hh p hp).resolve_left (by omega)
  rw [Bool.and_eq_true] at h
  obtain ⟨h1, h2⟩ := h
  constructor
  · revert h1
    cases readP (txtR how p n).1 with
    | err k line => intro h; cases h
    | ok ls =>
      intro h
      simp only [goodR, Bool.and_eq_true] at h
      exact ⟨ls, rfl, safeB_ok h.1, reachB_ok h.2⟩
  · revert h2
    cases readP ((txtR how p n).1 ++ [10, 98, 97, 100, 32, 61, 32, 49]) with
    | ok ls => intro h; cases h
    | err k line =>
      intro h
      simp only [twiceR, Bool.and_eq_true, beq_iff_eq] at h
      rw [h.1, h.2]

end Go.Proofs.YtmgjegokkbghlabDoor
