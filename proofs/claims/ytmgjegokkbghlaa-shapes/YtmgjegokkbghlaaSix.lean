/- Small things about stores with an order. -/
import Derived.Test.YtmgjegokkbghlaaHold
namespace Go.Proofs.Ytmgjegokkbghlaa
open Go.RowKit Go.Maps Bdd

theorem Keeps.six {s hb t bn bm : Nat} {w w' : World} (h : Keeps [s, hb, t, bn, bm] w w') (x : Nat) : Keeps [s, hb, t, bn, bm, x] w w' := h.mono (fun i hi => by simp at hi ⊢; omega)
theorem FV_first {L : Nat} {od : Ord L} (h : ∀ k, od.at_ k = k) (N : Tab) : FV N od = E N := by
  funext x a
  unfold FV
  congr 1
  funext k
  rw [h]

end Go.Proofs.Ytmgjegokkbghlaa
