/- A name's text, in an order: what hangs, what is given, which are the same. -/
import Derived.Test.YtmgjegokkbghlaaGreatRef
import Derived.Test.YtmgjegokkbghlaaGreatOrder
namespace Go.Proofs.YtmgjegokkbghlaaGreat
open Go.RowKit Go.Maps Bdd

/-- the number of an assignment -/
def numOf (a : Int → Bool) : Nat → Nat
  | 0 => 0
  | k + 1 => 2 * numOf a k + (a (k : Int)).toNat
theorem numOf_lt (a : Int → Bool) : ∀ k, numOf a k < 2 ^ k
  | 0 => by simp [numOf]
  | k + 1 => by
    have := numOf_lt a k
    simp only [numOf, Nat.pow_succ]
    cases a (k : Int) <;> simp <;> omega
theorem numOf_bit (a : Int → Bool) : ∀ k i : Nat, i < k → (numOf a k).testBit (k - 1 - i) = a i
  | 0, i, h => by omega
  | k + 1, i, h => by
    by_cases e : i = k
    · subst e
      simp only [numOf, Nat.add_sub_cancel, Nat.sub_self, Nat.testBit_zero]
      cases a (i : Int) <;> simp <;> omega
    · have e2 : k + 1 - 1 - i = (k - 1 - i) + 1 := by omega
      rw [e2, Nat.testBit_succ]
      have e3 : numOf a (k + 1) / 2 = numOf a k := by
        simp only [numOf]
        cases a (k : Int) <;> simp <;> omega
      rw [e3]
      exact numOf_bit a k i (by omega)
theorem asgN_num (a : Int → Bool) (n : Nat) {u : Int} (h0 : 0 ≤ u) (h1 : u < (n : Int)) : asgN n (numOf a n) u = a u := by
  obtain ⟨k, rfl⟩ := Int.eq_ofNat_of_zero_le h0
  unfold asgN
  rw [Int.toNat_natCast]
  exact numOf_bit a n k (by omega)

section
variable {N : Tab} {last : Int} {n : Nat}
/-- its text -/
def T (N : Tab) (o : Ord n) (x : Int) : ByteArray := txt n (FV N o x)

theorem put_lv (hn8 : n ≤ 8) (o : Ord n) {i : Nat} (hi : i < 2 ^ n) {k : Int} (h0 : 0 ≤ k) (h1 : k < (n : Int)) (b : Bool) : ∀ j, 0 ≤ j → j < (n : Int) → asgN n (putBit i (n - 1 - (o.at_ k).toNat) b) (o.at_ j) = setAt (fun j => asgN n i (o.at_ j)) k b j := by
  intro j j0 j1
  obtain ⟨a0, a1, a2⟩ := o.r1 k h0 h1
  obtain ⟨b0, b1, b2⟩ := o.r1 j j0 j1
  obtain ⟨v, hv⟩ := Int.eq_ofNat_of_zero_le a0
  rw [hv, Int.toNat_natCast, asg_put hn8 hi (by omega) b _ b0 b1]
  unfold setAt
  by_cases e : j = k
  · subst e; rw [if_pos hv, if_pos rfl]
  · rw [if_neg (fun e2 => e (by rw [← b2, e2, ← hv, a2])), if_neg e]
theorem every (o : Ord n) (a : Int → Bool) : ∃ i, i < 2 ^ n ∧ ∀ j, 0 ≤ j → j < (n : Int) → asgN n i (o.at_ j) = a j := by
  refine ⟨numOf (fun u => a (o.lv u)) n, numOf_lt _ _, fun j j0 j1 => ?_⟩
  obtain ⟨b0, b1, b2⟩ := o.r1 j j0 j1
  rw [asgN_num _ n b0 b1, b2]

theorem hangs_text (h : Wf N (n : Int) last) (hn8 : n ≤ 8) (o : Ord n) {k x : Int} (hx : Ok N k x) (h0 : 0 ≤ k) (h1 : k < (n : Int)) :
    (∃ i, i < 2 ^ n ∧ FV N o x (asgN n i) ≠ FV N o x (asgN n (putBit i (n - 1 - (o.at_ k).toNat) false))) ↔ lvl N x = k := by
  have hx0 := hx.mono h0
  rw [← hangs_iff h hx h0 (by omega)]
  have key : ∀ i, i < 2 ^ n → FV N o x (asgN n (putBit i (n - 1 - (o.at_ k).toNat) false)) = E N x (setAt (fun j => asgN n i (o.at_ j)) k false) := fun i hi =>
    E_below h hx0 _ _ (fun j j0 j1 => put_lv hn8 o hi h0 h1 false j j0 j1)
  constructor
  · rintro ⟨i, hi, hne⟩
    rw [key i hi] at hne
    refine ⟨fun j => asgN n i (o.at_ j), fun he => hne ?_⟩
    cases hv : asgN n i (o.at_ k) with
    | true =>
      have e : setAt (fun j => asgN n i (o.at_ j)) k true = fun j => asgN n i (o.at_ j) := by
        funext j; unfold setAt; by_cases ej : j = k
        · rw [if_pos ej, ej]; exact hv.symm
        · rw [if_neg ej]
      rw [← he, e]; rfl
    | false =>
      have e : setAt (fun j => asgN n i (o.at_ j)) k false = fun j => asgN n i (o.at_ j) := by
        funext j; unfold setAt; by_cases ej : j = k
        · rw [if_pos ej, ej]; exact hv.symm
        · rw [if_neg ej]
      rw [e]; rfl
  · rintro ⟨a, hne⟩
    obtain ⟨i, hi, ha⟩ := every o (setAt a k true)
    refine ⟨i, hi, ?_⟩
    rw [key i hi]
    have e1 : FV N o x (asgN n i) = E N x (setAt a k true) := E_below h hx0 _ _ (fun j j0 j1 => ha j j0 j1)
    have e2 : E N x (setAt (fun j => asgN n i (o.at_ j)) k false) = E N x (setAt a k false) := E_below h hx0 _ _ (fun j j0 j1 => by
      have := ha j j0 j1
      unfold setAt at this ⊢
      by_cases ej : j = k
      · rw [if_pos ej, if_pos ej]
      · rw [if_neg ej] at this; rw [if_neg ej, if_neg ej]; exact this)
    rw [e1, e2]; exact hne
theorem given_text (h : Wf N (n : Int) last) (hn8 : n ≤ 8) (o : Ord n) {k x : Int} (hx : Ok N k x) (h0 : 0 ≤ k) (h1 : k < (n : Int)) (b : Bool) :
    ∀ i, i < 2 ^ n → FV N o (part N x k b) (asgN n i) = FV N o x (asgN n (putBit i (n - 1 - (o.at_ k).toNat) b)) := by
  intro i hi
  show E N (part N x k b) _ = E N x _
  rw [part_given h hx b]
  exact (E_below h (hx.mono h0) _ _ (fun j j0 j1 => put_lv hn8 o hi h0 h1 b j j0 j1)).symm
theorem text_inj (h : Wf N (n : Int) last) (o : Ord n) {x y : Int} (hx : Ok N 0 x) (hy : Ok N 0 y) (e : T N o x = T N o y) : x = y := by
  refine (canon_iff h hx hy).2 (fun a => ?_)
  obtain ⟨i, hi, ha⟩ := every o a
  have h1 := txt_inj e i hi
  have e1 : E N x a = FV N o x (asgN n i) := E_below h hx _ _ (fun j j0 j1 => (ha j j0 j1).symm)
  have e2 : E N y a = FV N o y (asgN n i) := E_below h hy _ _ (fun j j0 j1 => (ha j j0 j1).symm)
  rw [e1, e2, h1]
end

end Go.Proofs.YtmgjegokkbghlaaGreat
