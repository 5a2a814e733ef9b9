/- An order of the variables: which variable is at a level, and back. Plain but for the block where a store keeps it. -/
import Derived.Test.YtmgjegokkbghlaaGreatCount
namespace Go.Proofs.YtmgjegokkbghlaaGreat
open Go.RowKit Go.Maps Bdd

/-- an order of n variables: the variable at each level, and back; where a store keeps it -/
structure Ord (n : Nat) where
  at_ : Int → Int
  lv : Int → Int
  r1 : ∀ k, 0 ≤ k → k < (n : Int) → 0 ≤ at_ k ∧ at_ k < (n : Int) ∧ lv (at_ k) = k
  r2 : ∀ u, 0 ≤ u → u < (n : Int) → 0 ≤ lv u ∧ lv u < (n : Int) ∧ at_ (lv u) = u
  blk : Nat := 0
  cap : Nat := 0
/-- the first order -/
def Ord.first (n : Nat) (blk cap : Nat := 0) : Ord n := ⟨fun k => k, fun u => u, fun _ h0 h1 => ⟨h0, h1, rfl⟩, fun _ h0 h1 => ⟨h0, h1, rfl⟩, blk, cap⟩

/-- the function of a name, by variables -/
def FV {n : Nat} (N : Tab) (o : Ord n) (x : Int) : (Int → Bool) → Bool := fun a => E N x (fun k => a (o.at_ k))

/-- an order in memory -/
def OrdIn {n : Nat} (w : World) (o : Ord n) : Prop := ∀ k : Nat, k < n → w.cell? ⟨o.blk, k, none⟩ = some (.int .i64 (o.at_ (k : Int))) ∧ w.frozen? ⟨o.blk, k, none⟩ = false
theorem OrdIn.keeps {n : Nat} {w w' : World} {o : Ord n} {S : List Nat} (h : OrdIn w o) (hk : Keeps S w w') (hS : o.blk ∉ S) : OrdIn w' o :=
  fun k hkn => ⟨hk.cell (h k hkn).1 hS, (hk.frozen (p := ⟨o.blk, k, none⟩) (cell_lt (h k hkn).1) hS).trans (h k hkn).2⟩

theorem E_lev {N : Tab} {top last : Int} (h : Wf N top last) {f : Int} (hf : Ok N 0 f) {a b : Int → Bool} (hab : ∀ k, 0 ≤ k → k < top → a k = b k) : E N f a = E N f b := by
  refine ok_ind (P := fun f => E N f a = E N f b) h ?_ ?_ ?_ hf
  · rw [E_zero h, E_zero h]
  · rw [E_one h, E_one h]
  · intro f n hn h1 h2
    have := h.lv f n hn
    rw [E_node h hn, E_node h hn, h1, h2, hab n.lv this.1 this.2]

end Go.Proofs.YtmgjegokkbghlaaGreat
