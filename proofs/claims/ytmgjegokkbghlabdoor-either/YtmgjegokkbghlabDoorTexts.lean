/- The circuits that Reached hands in, and what they come to: plain, by reckoning. The circuits that Counts hands in, and what they come to: plain, by reckoning. -/
import Derived.Test.YtmgjegokkbghlabDoorCirc
namespace Go.Proofs.YtmgjegokkbghlabDoor
open Circ Gram Runs
set_option linter.unusedVariables false

/-! ### what is reached, by reckoning -/
def nextSet (M : Runs.Sys) (l : List Nat) : List Nat := l.flatMap fun s => (List.range M.I).map fun i => M.step s i
def setK (M : Runs.Sys) : Nat → List Nat
  | 0 => (List.range M.S).filter M.first
  | k + 1 => (List.range M.S).filter fun t => (setK M k).contains t || (nextSet M (setK M k)).contains t
theorem Rd_first {M : Runs.Sys} {s : Nat} (h : s < M.S) (hf : M.first s = true) : Rd M s := ⟨0, lev_zero.2 ⟨h, hf⟩⟩
theorem Rd_step {M : Runs.Sys} {s i : Nat} (h : Rd M s) (hi : i < M.I) (hl : M.step s i < M.S) : Rd M (M.step s i) := by
  obtain ⟨k, hk⟩ := h
  by_cases hb : bef M (k + 1) (M.step s i)
  · obtain ⟨j, _, hj⟩ := bef_iff.1 hb; exact ⟨j, hj⟩
  · exact ⟨k + 1, lev_succ.2 ⟨⟨hl, s, i, hk, hi, rfl⟩, hb⟩⟩
theorem Rd_ind {M : Runs.Sys} {P : Nat → Prop} (h0 : ∀ s, s < M.S → M.first s = true → P s) (h1 : ∀ s i, P s → i < M.I → P (M.step s i)) {s : Nat} (h : Rd M s) : P s := by
  obtain ⟨k, hk⟩ := h
  induction k generalizing s with
  | zero => exact h0 s (lev_zero.1 hk).1 (lev_zero.1 hk).2
  | succ k ih =>
    obtain ⟨t, i, ht, hi, rfl⟩ := lev_prev hk
    exact h1 t i (ih ht) hi
theorem mem_nextSet {M : Runs.Sys} {l : List Nat} {t : Nat} : t ∈ nextSet M l ↔ ∃ s i, s ∈ l ∧ i < M.I ∧ M.step s i = t := by
  unfold nextSet
  simp only [List.mem_flatMap, List.mem_map, List.mem_range]
  constructor
  · rintro ⟨s, hs, i, hi, e⟩; exact ⟨s, i, hs, hi, e⟩
  · rintro ⟨s, i, hs, hi, e⟩; exact ⟨s, hs, i, hi, e⟩
theorem setK_sound {M : Runs.Sys} : ∀ (k : Nat) {s : Nat}, s ∈ setK M k → s < M.S ∧ Rd M s
  | 0, s, h => by
    have h := List.mem_filter.1 h
    have hs : s < M.S := by simpa using h.1
    exact ⟨hs, Rd_first hs h.2⟩
  | k + 1, s, h => by
    have h := List.mem_filter.1 h
    have hs : s < M.S := by simpa using h.1
    refine ⟨hs, ?_⟩
    rcases Bool.or_eq_true_iff.1 h.2 with h2 | h2
    · exact (setK_sound k (by simpa using h2)).2
    · obtain ⟨t, i, ht, hi, e⟩ := mem_nextSet.1 (by simpa using h2)
      subst e
      exact Rd_step (setK_sound k ht).2 hi hs
def reachB (M : Runs.Sys) (k want : Nat) : Bool := ((List.range M.S).filter M.first).all (fun t => (setK M k).contains t) && (nextSet M (setK M k)).all (fun t => (setK M k).contains t) && ((List.range M.S).countP fun t => (setK M k).contains t) == want
open Classical in
theorem reachB_ok {M : Runs.Sys} {k want : Nat} (h : reachB M k want = true) : Runs.howMany M = want := by
  unfold reachB at h
  simp only [Bool.and_eq_true, List.all_eq_true, beq_iff_eq] at h
  obtain ⟨⟨h1, h2⟩, h3⟩ := h
  rw [← h3]
  unfold Runs.howMany
  refine List.countP_congr (fun s hs => ?_)
  have hs : s < M.S := by simpa using hs
  rw [decide_eq_true_iff]
  constructor
  · intro hr
    refine Rd_ind (P := fun s => (setK M k).contains s = true) (fun s hs hf => h1 s (List.mem_filter.2 ⟨by simpa using hs, hf⟩)) (fun s i hs hi => ?_) hr
    exact h2 _ (mem_nextSet.2 ⟨s, i, by simpa using hs, hi, rfl⟩)
  · intro hc
    exact (setK_sound k (by simpa using hc)).2
def safeB (M : Runs.Sys) : Bool := (List.range M.S).all fun s => (List.range M.I).all fun i => !M.bad s i
theorem safeB_ok {M : Runs.Sys} (h : safeB M = true) (j : Nat) : ¬ BadAt M j := by
  rintro ⟨s, i, hs, hi, hb⟩
  unfold safeB at h
  simp only [List.all_eq_true, List.mem_range] at h
  have := h s (lev_lt hs) i hi
  rw [hb] at this
  cases this

/-! ### the texts of Reached -/
def nmT (c : UInt8) (p k : Nat) : List UInt8 := [c, UInt8.ofNat (97 + p + k)]
def firR (how : Nat) : List UInt8 := if how = 1 then [63] else [48]
def comR (how p : Nat) : List UInt8 := if how = 2 then nmT 103 p 0 else [48]
def txtR (how p : Nat) : Nat → List UInt8 × List UInt8
  | 0 => ([105, 110, 32] ++ nmT 103 p 0 ++ [10, 98, 97, 100, 61] ++ nmT 108 p 0 ++ [38, 33] ++ nmT 108 p 0, comR how p)
  | k + 1 => ((txtR how p k).1 ++ [10, 108, 97, 116, 99, 104, 32] ++ nmT 108 p k ++ [32] ++ firR how ++ [10, 110, 101, 120, 116, 32] ++ nmT 108 p k ++ [61] ++ (txtR how p k).2, nmT 108 p k)
def wantR (how n : Nat) : Nat := if how = 0 then 1 else 2 ^ n
def goodR (how n : Nat) : Got → Bool
  | .ok ls => safeB (sysOf ls) && reachB (sysOf ls) n (wantR how n)
  | _ => false
def twiceR (n : Nat) : Got → Bool
  | .err k line => k == 8 && line == 3 + 2 * n
  | _ => false
set_option maxRecDepth 100000 in
theorem all_R : ∀ n, n < 5 → ∀ how, how < 3 → ∀ p, p < 20 → n = 0 ∨ (goodR how n (readP (txtR how p n).1) && twiceR n (readP ((txtR how p n).1 ++ [10, 98, 97, 100, 32, 61, 32, 49]))) = true := by decide +kernel
theorem read_R {n how p : Nat} (hn : 1 ≤ n) (hn4 : n ≤ 4) (hh : how < 3) (hp : p < 20) : (∃ ls, readP (txtR how p n).1 = .ok ls ∧ (∀ j, ¬ BadAt (sysOf ls) j) ∧ Runs.howMany (sysOf ls) = wantR how n) ∧ readP ((txtR how p n).1 ++ [10, 98, 97, 100, 32, 61, 32, 49]) = .err 8 (3 + 2 * n) := by
  have h := (all_R n (by omega) how hh p hp).resolve_left (by omega)
  rw [Bool.and_eq_true] at h
  obtain ⟨h1, h2⟩ := h
  constructor
  · revert h1
    cases readP (txtR how p n).1 with
    | err k line => intro h; cases h
    | ok ls =>
      intro h
      simp only [goodR, Bool.and_eq_true] at h
      exact ⟨ls, rfl, safeB_ok h.1, reachB_ok h.2⟩
  · revert h2
    cases readP ((txtR how p n).1 ++ [10, 98, 97, 100, 32, 61, 32, 49]) with
    | ok ls => intro h; cases h
    | err k line =>
      intro h
      simp only [twiceR, Bool.and_eq_true, beq_iff_eq] at h
      rw [h.1, h.2]

end Go.Proofs.YtmgjegokkbghlabDoor

namespace Go.Proofs.YtmgjegokkbghlabDoor
open Circ Gram Runs
set_option linter.unusedVariables false

/-! ### a machine that counts -/
/-- what is asked of the machine, state by state: cnt counts, go lets it count, say says so in the end -/
structure Cnts (M : Runs.Sys) (T : Nat) (cnt : Nat → Nat) (go say : Nat → Bool) : Prop where
  pos : 0 < M.S
  top : cnt 0 = 0
  first : ∀ s, s < M.S → (M.first s = true ↔ s = 0)
  stays : ∀ s i, s < M.S → i < M.I → M.step s i < M.S ∧ cnt (M.step s i) ≤ cnt s + (if go i then 1 else 0) ∧ (go i = true → cnt s < T → cnt (M.step s i) = cnt s + 1)
  bad : ∀ s i, s < M.S → i < M.I → (M.bad s i = true ↔ cnt s = T ∧ say i = true)
  can : ∃ i, i < M.I ∧ go i = true ∧ say i = true
theorem Cnts.lev_le {M : Runs.Sys} {T : Nat} {cnt : Nat → Nat} {go say : Nat → Bool} (h : Cnts M T cnt go say) : ∀ (k : Nat) {s : Nat}, lev M k s → cnt s ≤ k
  | 0, s, hl => by
    have := (h.first s (lev_lt hl)).1 (lev_zero.1 hl).2
    rw [this, h.top]
    omega
  | k + 1, s, hl => by
    obtain ⟨t, i, ht, hi, rfl⟩ := lev_prev hl
    have h1 := h.lev_le k ht
    have h2 := (h.stays t i (lev_lt ht) hi).2.1
    split at h2 <;> omega
theorem Cnts.lev_is {M : Runs.Sys} {T : Nat} {cnt : Nat → Nat} {go say : Nat → Bool} (h : Cnts M T cnt go say) : ∀ m, m ≤ T → ∃ s, lev M m s ∧ cnt s = m
  | 0, _ => ⟨0, lev_zero.2 ⟨h.pos, (h.first 0 h.pos).2 rfl⟩, h.top⟩
  | m + 1, hm => by
    obtain ⟨s, hs, hc⟩ := h.lev_is m (by omega)
    obtain ⟨i, hi, hg, _⟩ := h.can
    obtain ⟨h1, _, h3⟩ := h.stays s i (lev_lt hs) hi
    have hcs := h3 hg (by omega)
    refine ⟨M.step s i, lev_succ.2 ⟨⟨h1, s, i, hs, hi, rfl⟩, fun hb => ?_⟩, by omega⟩
    obtain ⟨j, hj, hl⟩ := bef_iff.1 hb
    have := h.lev_le j hl
    omega
theorem Cnts.bad_at {M : Runs.Sys} {T : Nat} {cnt : Nat → Nat} {go say : Nat → Bool} (h : Cnts M T cnt go say) : BadAt M T := by
  obtain ⟨s, hs, hc⟩ := h.lev_is T (Nat.le_refl _)
  obtain ⟨i, hi, _, hy⟩ := h.can
  exact ⟨s, i, hs, hi, (h.bad s i (lev_lt hs) hi).2 ⟨hc, hy⟩⟩
theorem Cnts.after_le {M : Runs.Sys} {T : Nat} {cnt : Nat → Nat} {go say : Nat → Bool} (h : Cnts M T cnt go say) : ∀ (l : List Nat) {s : Nat}, s < M.S → (∀ i ∈ l, i < M.I) → after M s l < M.S ∧ cnt (after M s l) ≤ cnt s + l.countP go
  | [], s, hs, _ => ⟨hs, by simp [after]⟩
  | i :: r, s, hs, hl => by
    obtain ⟨h1, h2, _⟩ := h.stays s i hs (hl i (by simp))
    obtain ⟨h4, h5⟩ := h.after_le r h1 (fun j hj => hl j (by simp [hj]))
    refine ⟨h4, ?_⟩
    simp only [after]
    rw [List.countP_cons]
    split at h2 <;> rename_i hg <;> simp [hg] <;> omega
/-- WHAT MAY BE TOLD of a machine that counts -/
theorem Cnts.told {M : Runs.Sys} {T : Nat} {cnt : Nat → Nat} {go say : Nat → Bool} (h : Cnts M T cnt go say) {k s0 : Nat} {is : List Nat} (ht : Runs.Told M k s0 is) : s0 = 0 ∧ k = T ∧ (∀ j, j < k → go (is.getD j 0) = true) ∧ say (is.getD k 0) = true := by
  have hk : k = T := by
    obtain ⟨s, i, hs, hi, hb⟩ := ht.bad
    have h1 := ((h.bad s i (lev_lt hs) hi).1 hb).1
    have h2 := h.lev_le k hs
    have h3 : ¬ T < k := fun hlt => ht.least T hlt h.bad_at
    omega
  subst hk
  have h0 := (h.first s0 ht.lt).1 ht.first
  have hlen := ht.len
  have hin : ∀ i ∈ is.take k, i < M.I := fun i hi => ht.ins i (List.mem_of_mem_take hi)
  obtain ⟨ha, hc⟩ := h.after_le (is.take k) ht.lt hin
  have hik : is.getD k 0 < M.I := by
    rw [List.getD_eq_getElem?_getD, List.getElem?_eq_getElem (by omega)]
    exact ht.ins _ (List.getElem_mem _)
  have hbad := (h.bad _ _ ha hik).1 ht.ends
  have hcnt : (is.take k).countP go = (is.take k).length := by
    have h1 := List.countP_le_length (p := go) (l := is.take k)
    have h2 : (is.take k).length = k := by rw [List.length_take]; omega
    have hc0 : cnt s0 = 0 := by rw [h0, h.top]
    have hb1 := hbad.1
    omega
  refine ⟨h0, rfl, fun j hj => ?_, hbad.2⟩
  have hall := List.countP_eq_length.1 hcnt
  have hjl : j < (is.take k).length := by rw [List.length_take]; omega
  have := hall _ (List.getElem_mem hjl)
  rw [List.getElem_take] at this
  rw [List.getD_eq_getElem?_getD, List.getElem?_eq_getElem (by omega)]
  exact this

/-! ### the texts of Counts -/
def carC (p : Nat) : Nat → List UInt8
  | 0 => nmT 103 p 0
  | k + 1 => carC p k ++ [32, 38, 32] ++ nmT 108 p k
def allC (p : Nat) : Nat → List UInt8
  | 0 => nmT 113 p 0
  | k + 1 => allC p k ++ [38] ++ nmT 108 p k
def lnsC (p : Nat) : Nat → List (List UInt8)
  | 0 => [[105, 110, 32] ++ nmT 103 p 0, [105, 110, 32] ++ nmT 113 p 0]
  | k + 1 => lnsC p k ++ [[108, 97, 116, 99, 104, 32] ++ nmT 108 p k ++ [32, 48], [110, 101, 120, 116, 32] ++ nmT 108 p k ++ [32, 61, 32] ++ nmT 108 p k ++ [32, 94, 32, 40] ++ carC p k ++ [41]]
def fullC (p n : Nat) : List (List UInt8) := lnsC p n ++ [[98, 97, 100, 32, 61, 32] ++ allC p n, []]
def glue : List (List UInt8) → List UInt8
  | [] => []
  | l :: r => l ++ [10] ++ glue r
def txtC (p n : Nat) (odd : Bool) : List UInt8 := glue (if odd then (fullC p n).reverse else fullC p n)
/-- the number that the latches hold -/
def cntC (n : Nat) (odd : Bool) (s : Nat) : Nat := ((List.range n).map fun k => if dig n s (if odd then n - 1 - k else k) then 2 ^ k else 0).sum
def goC (odd : Bool) (i : Nat) : Bool := dig 2 i (if odd then 1 else 0)
def sayC (odd : Bool) (i : Nat) : Bool := dig 2 i (if odd then 0 else 1)
def okC (n : Nat) (odd : Bool) (M : Runs.Sys) : Bool := decide (0 < M.S) && (cntC n odd 0 == 0) && ((List.range M.S).all fun s => M.first s == (s == 0)) &&
  ((List.range M.S).all fun s => (List.range M.I).all fun i => let t := M.step s i; let c := cntC n odd s; let d := cntC n odd t
    decide (t < M.S) && decide (d ≤ c + (if goC odd i then 1 else 0)) && (!(goC odd i && decide (c < 2 ^ n - 1)) || d == c + 1) && (M.bad s i == ((c == 2 ^ n - 1) && sayC odd i))) && ((List.range M.I).any fun i => goC odd i && sayC odd i)
theorem okC_ok {n : Nat} {odd : Bool} {M : Runs.Sys} (h : okC n odd M = true) : Cnts M (2 ^ n - 1) (cntC n odd) (goC odd) (sayC odd) := by
  unfold okC at h
  simp only [Bool.and_eq_true, List.all_eq_true, List.mem_range, decide_eq_true_eq, beq_iff_eq, Bool.or_eq_true, List.any_eq_true] at h
  obtain ⟨⟨⟨⟨h1, h2⟩, h3⟩, h4⟩, h5⟩ := h
  refine ⟨h1, h2, fun s hs => ?_, fun s i hs hi => ?_, fun s i hs hi => ?_, ?_⟩
  · rw [h3 s hs]; simp
  · obtain ⟨⟨⟨a, b⟩, c⟩, d⟩ := h4 s hs i hi
    refine ⟨a, b, fun hg hlt => ?_⟩
    rcases c with c | c
    · simp [hg, hlt] at c
    · exact c
  · obtain ⟨⟨⟨a, b⟩, c⟩, d⟩ := h4 s hs i hi
    rw [d]; simp
  · obtain ⟨i, hi, hg⟩ := h5
    exact ⟨i, hi, hg.1, hg.2⟩
def goodC (n : Nat) (odd : Bool) : Got → Bool
  | .ok ls => (latches ls).length == n && (named 1 ls).length == 2 && okC n odd (sysOf ls)
  | _ => false
set_option maxRecDepth 100000 in
theorem all_C : ∀ n, n < 5 → ∀ p, p < 20 → n = 0 ∨ (goodC n false (readP (txtC p n false)) && goodC n true (readP (txtC p n true))) = true := by decide +kernel
theorem read_C {n p : Nat} (odd : Bool) (hn : 1 ≤ n) (hn4 : n ≤ 4) (hp : p < 20) : ∃ ls, readP (txtC p n odd) = .ok ls ∧ (latches ls).length = n ∧ (named 1 ls).length = 2 ∧ Cnts (sysOf ls) (2 ^ n - 1) (cntC n odd) (goC odd) (sayC odd) := by
  have h := (all_C n (by omega) p hp).resolve_left (by omega)
  rw [Bool.and_eq_true] at h
  have h' : goodC n odd (readP (txtC p n odd)) = true := by cases odd; exact h.1; exact h.2
  revert h'
  cases readP (txtC p n odd) with
  | err k line => intro h; cases h
  | ok ls =>
    intro h
    simp only [goodC, Bool.and_eq_true, beq_iff_eq] at h
    exact ⟨ls, rfl, h.1.1, h.1.2, okC_ok h.2⟩

end Go.Proofs.YtmgjegokkbghlabDoor
