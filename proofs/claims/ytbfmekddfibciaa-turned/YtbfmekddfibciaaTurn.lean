/- The order turned: exchange of a store. -/
import Derived.Test.YtbfmekddfibciaaExchE
import Derived.Test.YtbfmekddfibciaaAsks
namespace Go.Proofs.Ytbfmekddfibciaa
open Go.RowKit Go.Maps Bdd
attribute [local go_sem ↓] Go.wp_at_zero Go.wp_at_succ

theorem swk_in {l k top : Int} (hl0 : 0 ≤ l) (hl1 : l + 1 < top) (h0 : 0 ≤ k) (h1 : k < top) : 0 ≤ swk l k ∧ swk l k < top := by
  unfold swk
  split
  · omega
  · split <;> omega
/-- two neighbours of an order exchanged -/
def Ord.swap {L : Nat} (od : Ord L) (l : Int) (hl0 : 0 ≤ l) (hl1 : l + 1 < (L : Int)) : Ord L where
  at_ k := od.at_ (swk l k)
  lv u := swk l (od.lv u)
  r1 k h0 h1 := by
    obtain ⟨a0, a1⟩ := swk_in hl0 hl1 h0 h1
    obtain ⟨b0, b1, b2⟩ := od.r1 _ a0 a1
    exact ⟨b0, b1, by rw [b2, swk_swk]⟩
  r2 u h0 h1 := by
    obtain ⟨b0, b1, b2⟩ := od.r2 u h0 h1
    obtain ⟨a0, a1⟩ := swk_in hl0 hl1 b0 b1
    exact ⟨a0, a1, by rw [swk_swk, b2]⟩
  blk := od.blk
  cap := od.cap

theorem OrdIn.swap {L : Nat} {od : Ord L} {w : World} (h : OrdIn w od) {p : Nat} (h0 : 0 ≤ (p : Int)) (h1 : (p : Int) + 1 < (L : Int)) : OrdIn ((w.setCell ⟨od.blk, p, none⟩ (.int .i64 (od.at_ ((p : Int) + 1)))).setCell ⟨od.blk, p + 1, none⟩ (.int .i64 (od.at_ (p : Int)))) (od.swap p h0 h1) := by
  intro k hk
  refine ⟨?_, by rw [World.frozen?_setCell, World.frozen?_setCell]; exact (h k hk).2⟩
  show _ = some (Value.int .i64 (od.at_ (swk p k)))
  by_cases e1 : k = p + 1
  · subst e1
    have : swk (p : Int) ((p + 1 : Nat) : Int) = (p : Int) := by unfold swk; rw [if_neg (by omega), if_pos (by omega)]
    rw [this]
    refine World.cell?_setCell_same _ _ _ (u := .int .i64 (od.at_ ((p + 1 : Nat) : Int))) ?_
    show (w.setCell _ _).cell? ⟨od.blk, p + 1, none⟩ = _
    rw [World.cell?_setCell_other _ _ _ _ (by first | (simp; done) | (simp; omega))]
    exact (h (p + 1) hk).1
  · have hn1 : (⟨(od.swap p h0 h1).blk, k, none⟩ : Addr) ≠ ⟨od.blk, p + 1, none⟩ := by intro e; cases e; exact e1 rfl
    rw [World.cell?_setCell_other _ _ _ _ (by first | exact hn1 | exact fun e => hn1 e.symm | (simp; omega))]
    by_cases e2 : k = p
    · subst e2
      have : swk (k : Int) (k : Int) = (k : Int) + 1 := by unfold swk; rw [if_pos rfl]
      rw [this]
      exact World.cell?_setCell_same _ _ _ (h k hk).1
    · have : swk (p : Int) (k : Int) = (k : Int) := by unfold swk; rw [if_neg (by omega), if_neg (by omega)]
      rw [this, World.cell?_setCell_other _ _ _ _ (by first | (simp; done) | (simp; omega))]
      exact (h k hk).1

/-- no function is changed -/
theorem FV_swapo {N A : Tab} {L : Nat} {od : Ord L} {l last lastc : Int} (hw : Wf N (L : Int) last) (hl0 : 0 ≤ l) (hl1 : l + 1 < (L : Int)) (h : ExS N A l last lastc (fun _ => True) (fun _ => True) (AtLv N l)) {f : Int} (hf : Ok N 0 f) : FV A (od.swap l hl0 hl1) f = FV N od f := by
  funext a
  show E A f (fun k => a (od.at_ (swk l k))) = E N f (fun k => a (od.at_ k))
  rw [h.E hw hl0 hl1 (fun _ => trivial) (fun _ => trivial) (fun _ h => h) hf]
  simp only [swk_swk]

/-- a store by its table's names, whatever the table's size -/
theorem StAt.exch {w w' : World} {s hb t bn bm sz sz' nh L : Nat} {od : Ord L} {lim given : Int} {N A : Tab} {last lastc : Int} {H : Int → Option Int} {p : Nat} (h : StAt w s hb t bn bm sz nh od lim given N last H) (h0 : 0 ≤ (p : Int)) (h1 : (p : Int) + 1 < (L : Int)) (hk : Keeps [t, bn, bm] w w') (hT : TabAt w' t bn bm sz' A (L : Int) lastc) (hok : ∀ x f, H x = some f → Ok A 0 f) :
    StAt ((w'.setCell ⟨od.blk, p, none⟩ (.int .i64 (od.at_ ((p : Int) + 1)))).setCell ⟨od.blk, p + 1, none⟩ (.int .i64 (od.at_ (p : Int)))) s hb t bn bm sz' nh (od.swap p h0 h1) lim given A lastc H := by
  have g := h.turn hk hT hok
  have hk2 : Keeps [od.blk] w' ((w'.setCell ⟨od.blk, p, none⟩ (.int .i64 (od.at_ ((p : Int) + 1)))).setCell ⟨od.blk, p + 1, none⟩ (.int .i64 (od.at_ (p : Int)))) := ((Keeps.refl _ _).setCell _ (Or.inl (by simp)) _).setCell _ (Or.inl (by simp)) _
  have hs : s ∉ [od.blk] := by simp; exact fun e => g.n4 e.symm
  exact ⟨g.tab.keeps hk2 (by simp; exact fun e => g.n5 e.symm) (by simp; exact fun e => g.on e.symm) (by simp; exact fun e => g.om e.symm), hk2.cell g.c0 hs, hk2.cell g.c1 hs, hk2.cell g.c2 hs, hk2.cell g.c3 hs, hk2.cell g.c4 hs, (hk2.frozen (p := ⟨s, 1, none⟩) (cell_lt g.c1) hs).trans g.f1, g.held.keeps hk2 (by simp; exact fun e => g.oh e.symm), g.ord.swap h0 h1, g.pos, g.n1, g.n2, g.n3, g.n4, g.n5, g.ok, g.hr, g.g0, g.g1⟩


end Go.Proofs.Ytbfmekddfibciaa
