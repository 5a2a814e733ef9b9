/- What an order does to setting, exchanging, freeing, counting, weighing: plain mathematics. -/
import Derived.Test.YtmgjegokkbghlaaGreatOrder
import Derived.Test.YtmgjegokkbghlaaGreatExis
import Derived.Test.YtmgjegokkbghlaaGreatLeast
import Derived.Test.YtmgjegokkbghlaaGreatSwap
namespace Go.Proofs.YtmgjegokkbghlaaGreat
open Go.RowKit Go.Maps Bdd

section
variable {N : Tab} {L : Nat} {last : Int} {od : Ord L}

theorem Ord.at_iff (od : Ord L) {k i : Int} (k0 : 0 ≤ k) (k1 : k < (L : Int)) (i0 : 0 ≤ i) (i1 : i < (L : Int)) : od.at_ k = i ↔ k = od.lv i := by
  obtain ⟨_, _, a⟩ := od.r1 k k0 k1
  obtain ⟨_, _, b⟩ := od.r2 i i0 i1
  constructor
  · intro e; rw [← e, a]
  · intro e; rw [e, b]
theorem FV_set (h : Wf N (L : Int) last) {f i : Int} (hf : Ok N 0 f) (i0 : 0 ≤ i) (i1 : i < (L : Int)) (v : Bool) (a : Int → Bool) : FV N od f (setAt a i v) = E N f (setAt (fun k => a (od.at_ k)) (od.lv i) v) := by
  refine E_lev h hf (fun k k0 k1 => ?_)
  have := od.at_iff k0 k1 i0 i1
  unfold setAt
  by_cases e : od.at_ k = i
  · rw [if_pos e, if_pos (this.1 e)]
  · rw [if_neg e, if_neg (fun e' => e (this.2 e'))]
theorem FV_swap (h : Wf N (L : Int) last) {f i j : Int} (hf : Ok N 0 f) (i0 : 0 ≤ i) (i1 : i < (L : Int)) (j0 : 0 ≤ j) (j1 : j < (L : Int)) (a : Int → Bool) : FV N od f (swapA a i j) = E N f (swapA (fun k => a (od.at_ k)) (od.lv i) (od.lv j)) := by
  refine E_lev h hf (fun k k0 k1 => ?_)
  have h1 := od.at_iff k0 k1 i0 i1
  have h2 := od.at_iff k0 k1 j0 j1
  have r1 := (od.r2 i i0 i1).2.2
  have r2 := (od.r2 j j0 j1).2.2
  unfold swapA setAt
  by_cases e : od.at_ k = i
  · rw [if_pos e, if_pos (h1.1 e)]
    show a j = a (od.at_ (od.lv j))
    rw [r2]
  · rw [if_neg e, if_neg (fun e' => e (h1.2 e'))]
    by_cases e2 : od.at_ k = j
    · rw [if_pos e2, if_pos (h2.1 e2)]
      show a i = a (od.at_ (od.lv i))
      rw [r1]
    · rw [if_neg e2, if_neg (fun e' => e2 (h2.2 e'))]
theorem FV_ex (h : Wf N (L : Int) last) {f : Int} (hf : Ok N 0 f) {fr frV : Int → Bool} (hfr : ∀ k, 0 ≤ k → k < (L : Int) → fr k = frV (od.at_ k)) (a : Int → Bool) : ExP fr (E N f) (fun k => a (od.at_ k)) ↔ ExP frV (FV N od f) a := by
  constructor
  · rintro ⟨b, hb, hE⟩
    refine ⟨fun u => if 0 ≤ u ∧ u < (L : Int) then b (od.lv u) else a u, fun u hu => ?_, ?_⟩
    · by_cases e : 0 ≤ u ∧ u < (L : Int)
      · obtain ⟨p0, p1, p2⟩ := od.r2 u e.1 e.2
        have := hb (od.lv u) (by rw [hfr _ p0 p1, p2]; exact hu)
        simp only [e, and_self, if_true]
        rw [this]
        show a (od.at_ (od.lv u)) = a u
        rw [p2]
      · simp only [e, if_false]
    · rw [← hE]
      refine E_lev h hf (fun k k0 k1 => ?_)
      obtain ⟨p0, p1, p2⟩ := od.r1 k k0 k1
      simp only [p0, p1, and_self, if_true, p2]
  · rintro ⟨b, hb, hE⟩
    refine ⟨fun k => if 0 ≤ k ∧ k < (L : Int) then b (od.at_ k) else a (od.at_ k), fun k hk => ?_, ?_⟩
    · by_cases e : 0 ≤ k ∧ k < (L : Int)
      · simp only [e, and_self, if_true]
        exact hb _ (by rw [← hfr k e.1 e.2]; exact hk)
      · simp only [e, if_false]
    · rw [← hE]
      refine E_lev h hf (fun k k0 k1 => ?_)
      simp only [k0, k1, and_self, if_true]

/-- a function by levels, out of the one by variables -/
theorem FV_back (h : Wf N (L : Int) last) {f : Int} (hf : Ok N 0 f) (b : Int → Bool) : FV N od f (fun u => b (od.lv u)) = E N f b :=
  E_lev h hf (fun k k0 k1 => by show b (od.lv (od.at_ k)) = b k; rw [(od.r1 k k0 k1).2.2])
theorem canon_FV (h : Wf N (L : Int) last) {f g : Int} (hf : Ok N 0 f) (hg : Ok N 0 g) : f = g ↔ ∀ a, FV N od f a = FV N od g a := by
  rw [canon_iff h hf hg]
  exact ⟨fun e a => e _, fun e b => by rw [← FV_back (od := od) h hf, ← FV_back (od := od) h hg, e]⟩

/-! ### counting -/
def asgs : Nat → Int → (Int → Bool) → List (Int → Bool)
  | 0, _, a => [a]
  | k + 1, l, a => asgs k (l + 1) (setAt a l false) ++ asgs k (l + 1) (setAt a l true)
theorem cnt_asgs (P : (Int → Bool) → Bool) : ∀ (k : Nat) (l : Int) (a : Int → Bool), cnt P k l a = ((asgs k l a).filter P).length
  | 0, _, a => by cases h : P a <;> simp [cnt, asgs, h]
  | k + 1, l, a => by simp only [cnt, asgs, List.filter_append, List.length_append, cnt_asgs P k]
theorem asgs_mem : ∀ (k : Nat) (l : Int) (a b : Int → Bool), b ∈ asgs k l a ↔ ∀ i, i < l ∨ l + (k : Int) ≤ i → b i = a i
  | 0, l, a, b => by
    simp only [asgs, List.mem_singleton]
    constructor
    · rintro rfl i _; rfl
    · intro h; funext i; exact h i (by omega)
  | k + 1, l, a, b => by
    simp only [asgs, List.mem_append, asgs_mem k]
    constructor
    · rintro (h | h)
      · intro i hi
        have := h i (by omega)
        unfold setAt at this
        rw [if_neg (by omega)] at this
        exact this
      · intro i hi
        have := h i (by omega)
        unfold setAt at this
        rw [if_neg (by omega)] at this
        exact this
    · intro h
      cases hb : b l with
      | false =>
        refine Or.inl (fun i hi => ?_)
        unfold setAt
        by_cases e : i = l
        · rw [if_pos e, e]; exact hb
        · rw [if_neg e]; exact h i (by omega)
      | true =>
        refine Or.inr (fun i hi => ?_)
        unfold setAt
        by_cases e : i = l
        · rw [if_pos e, e]; exact hb
        · rw [if_neg e]; exact h i (by omega)
theorem asgs_nodup : ∀ (k : Nat) (l : Int) (a : Int → Bool), (asgs k l a).Nodup
  | 0, l, a => by simp [asgs]
  | k + 1, l, a => by
    simp only [asgs]
    refine List.nodup_append.2 ⟨asgs_nodup k _ _, asgs_nodup k _ _, fun b hb c hc e => ?_⟩
    subst e
    have h1 := (asgs_mem k _ _ _).1 hb l (by omega)
    have h2 := (asgs_mem k _ _ _).1 hc l (by omega)
    rw [h1] at h2
    simp [setAt] at h2
theorem map_le {α β : Type} {l : List α} {l' : List β} (f : α → β) (hn : l.Nodup) (hi : ∀ x ∈ l, ∀ y ∈ l, f x = f y → x = y) (hm : ∀ x ∈ l, f x ∈ l') : l.length ≤ l'.length := by
  have h1 : (l.map f).Nodup := by
    unfold List.Nodup
    rw [List.pairwise_map]
    exact List.Pairwise.imp_of_mem (fun {a b} ha hb hne e => hne (hi a ha b hb e)) hn
  have h2 := len_of_sub (l.map f) l' h1 (by
    intro y hy
    obtain ⟨x, hx, rfl⟩ := List.mem_map.1 hy
    exact hm x hx)
  simpa using h2
theorem cnt_FV (h : Wf N (L : Int) last) {f : Int} (hf : Ok N 0 f) : cnt (FV N od f) L 0 (fun _ => false) = cnt (E N f) L 0 (fun _ => false) := by
  rw [cnt_asgs, cnt_asgs]
  have key : ∀ b, b ∈ asgs L 0 (fun _ => false) ↔ ∀ i, ¬ (0 ≤ i ∧ i < (L : Int)) → b i = false := by
    intro b
    rw [asgs_mem]
    exact ⟨fun h i hi => h i (by omega), fun h i hi => h i (by omega)⟩
  refine Nat.le_antisymm (map_le (fun b k => if 0 ≤ k ∧ k < (L : Int) then b (od.at_ k) else false) ((asgs_nodup _ _ _).filter _) ?_ ?_) (map_le (fun b u => if 0 ≤ u ∧ u < (L : Int) then b (od.lv u) else false) ((asgs_nodup _ _ _).filter _) ?_ ?_)
  · intro x hx y hy e
    have hx' := (key x).1 (List.mem_filter.1 hx).1
    have hy' := (key y).1 (List.mem_filter.1 hy).1
    funext u
    by_cases hu : 0 ≤ u ∧ u < (L : Int)
    · obtain ⟨p0, p1, p2⟩ := od.r2 u hu.1 hu.2
      have := congrFun e (od.lv u)
      simp only [p0, p1, and_self, if_true, p2] at this
      exact this
    · rw [hx' u hu, hy' u hu]
  · intro x hx
    refine List.mem_filter.2 ⟨(key _).2 (fun i hi => by simp only [hi, if_false]), ?_⟩
    have := (List.mem_filter.1 hx).2
    rw [← this]
    refine E_lev h hf (fun k k0 k1 => ?_)
    simp only [k0, k1, and_self, if_true]
  · intro x hx y hy e
    have hx' := (key x).1 (List.mem_filter.1 hx).1
    have hy' := (key y).1 (List.mem_filter.1 hy).1
    funext u
    by_cases hu : 0 ≤ u ∧ u < (L : Int)
    · obtain ⟨p0, p1, p2⟩ := od.r1 u hu.1 hu.2
      have := congrFun e (od.at_ u)
      simp only [p0, p1, and_self, if_true, p2] at this
      exact this
    · rw [hx' u hu, hy' u hu]
  · intro x hx
    refine List.mem_filter.2 ⟨(key _).2 (fun i hi => by simp only [hi, if_false]), ?_⟩
    have := (List.mem_filter.1 hx).2
    rw [← this]
    refine E_lev h hf (fun k k0 k1 => ?_)
    obtain ⟨p0, p1, p2⟩ := od.r1 k k0 k1
    simp only [p0, p1, and_self, if_true, p2]

/-! ### weighing -/
theorem wsum_list (Wt : Nat → Nat) (a : Int → Bool) : ∀ k, wsum Wt a k = ((List.range k).map fun i : Nat => if a (i : Int) then Wt i else 0).sum
  | 0 => rfl
  | k + 1 => by rw [List.range_succ, List.map_append, List.sum_append, ← wsum_list Wt a k]; simp [wsum]
theorem Ord.perm (od : Ord L) : List.Perm ((List.range L).map fun k : Nat => (od.at_ (k : Int)).toNat) (List.range L) := by
  refine (List.perm_ext_iff_of_nodup ?_ List.nodup_range).2 (fun u => ?_)
  · unfold List.Nodup
    rw [List.pairwise_map]
    refine List.Pairwise.imp_of_mem (fun {a b} ha hb hne e => hne ?_) List.nodup_range
    rw [List.mem_range] at ha hb
    obtain ⟨p0, p1, p2⟩ := od.r1 a (by omega) (by omega)
    obtain ⟨q0, q1, q2⟩ := od.r1 b (by omega) (by omega)
    have : od.at_ (a : Int) = od.at_ (b : Int) := by omega
    rw [this] at p2
    omega
  · simp only [List.mem_map, List.mem_range]
    constructor
    · rintro ⟨k, hk, rfl⟩
      obtain ⟨p0, p1, p2⟩ := od.r1 k (by omega) (by omega)
      omega
    · intro hu
      obtain ⟨p0, p1, p2⟩ := od.r2 u (by omega) (by omega)
      refine ⟨(od.lv u).toNat, by omega, ?_⟩
      rw [Int.toNat_of_nonneg p0, p2]
      simp
theorem wsum_perm (od : Ord L) (Wt : Nat → Nat) (a : Int → Bool) : wsum (fun k => Wt (od.at_ (k : Int)).toNat) a L = wsum Wt (fun u => a (od.lv u)) L := by
  rw [wsum_list, wsum_list]
  have h := (od.perm.map (fun u : Nat => if a (od.lv (u : Int)) then Wt u else 0)).sum_nat
  rw [← h, List.map_map]
  congr 1
  refine List.map_congr_left (fun k hk => ?_)
  rw [List.mem_range] at hk
  obtain ⟨p0, p1, p2⟩ := od.r1 k (by omega) (by omega)
  simp only [Function.comp_apply]
  rw [Int.toNat_of_nonneg p0, p2]
end
end Go.Proofs.YtmgjegokkbghlaaGreat
