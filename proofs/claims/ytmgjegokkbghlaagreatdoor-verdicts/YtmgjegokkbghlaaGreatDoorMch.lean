/- A whole machine in memory. -/
import Derived.Test.YtmgjegokkbghlaaGreatDoorImage
namespace Go.Proofs.YtmgjegokkbghlaaGreatDoor
open Go.RowKit Go.Maps Bdd Circ Gram Runs
set_option linter.unusedVariables false

theorem Mk.set {w : World} {m t bn bm L I K : Nat} {N : Tab} (h : Mk w m t bn bm L I K N) {q : Nat} (hq : 3 ≤ q) (v : Value) : Mk (w.setCell ⟨m, q, none⟩ v) m t bn bm L I K N := by
  obtain ⟨sz, last, hT, h4, h5⟩ := h.tab
  have ho := h.off
  simp only [List.mem_cons, List.not_mem_nil, or_false, not_or] at ho
  have hk : Keeps [m] w (w.setCell ⟨m, q, none⟩ v) := (Keeps.refl _ _).setCell _ (Or.inl (by simp)) _
  refine ⟨⟨sz, last, hT.keeps hk (by simp; omega) (by simp; omega) (by simp; omega), h4, h5⟩, Nat.lt_of_lt_of_le h.lt hk.size, h.off, ?_, ?_, ?_, h.hL, h.hI⟩
  · rw [World.cell?_setCell_other _ _ _ _ (by intro e; cases e; omega)]; exact h.c0
  · rw [World.cell?_setCell_other _ _ _ _ (by intro e; cases e; omega)]; exact h.c1
  · rw [World.cell?_setCell_other _ _ _ _ (by intro e; cases e; omega)]; exact h.c2
/-- a machine that is being made -/
structure Mb (w : World) (m t bn bm L I K : Nat) (N : Tab) (rf rs : Int) : Prop where
  hd : Mk w m t bn bm L I K N
  c3 : w.cell? ⟨m, 3, none⟩ = some (.int .i64 rf)
  c4 : w.cell? ⟨m, 4, none⟩ = some (.int .i64 rs)
  c5 : ∃ x, w.cell? ⟨m, 5, none⟩ = some x
  fz : ∀ q, w.frozen? ⟨m, q, none⟩ = false
theorem Mb.keeps {w w' : World} {m t bn bm L I K : Nat} {N : Tab} {rf rs : Int} {S : List Nat} (h : Mb w m t bn bm L I K N rf rs) (hk : Keeps S w w') (hm : m ∉ S) (h1 : t ∉ S) (h2 : bn ∉ S) (h3 : bm ∉ S) : Mb w' m t bn bm L I K N rf rs := by
  obtain ⟨x, hx⟩ := h.c5
  exact ⟨h.hd.keeps hk hm h1 h2 h3, hk.cell h.c3 hm, hk.cell h.c4 hm, ⟨x, hk.cell hx hm⟩, fun q => by rw [hk.frozen h.hd.lt hm]; exact h.fz q⟩
theorem Mb.step {w w' : World} {m t bn bm L I K K' : Nat} {N N' : Tab} {rf rs : Int} (h : Mb w m t bn bm L I K N rf rs) (hm : Mk w' m t bn bm L I K' N') (hk : Keeps [t, bn, bm] w w') : Mb w' m t bn bm L I K' N' rf rs := by
  obtain ⟨x, hx⟩ := h.c5
  exact ⟨hm, hk.cell h.c3 h.hd.off, hk.cell h.c4 h.hd.off, ⟨x, hk.cell hx h.hd.off⟩, fun q => by rw [hk.frozen h.hd.lt h.hd.off]; exact h.fz q⟩
theorem Mb.set3 {w : World} {m t bn bm L I K : Nat} {N : Tab} {rf rs : Int} (h : Mb w m t bn bm L I K N rf rs) (r : Int) : Mb (w.setCell ⟨m, 3, none⟩ (.int .i64 r)) m t bn bm L I K N r rs := by
  obtain ⟨x, hx⟩ := h.c5
  refine ⟨h.hd.set (by omega) _, World.cell?_setCell_same _ _ _ h.c3, ?_, ⟨x, ?_⟩, fun q => ?_⟩
  · rw [World.cell?_setCell_other _ _ _ _ (by simp)]; exact h.c4
  · rw [World.cell?_setCell_other _ _ _ _ (by simp)]; exact hx
  · rw [World.frozen?_setCell]; exact h.fz q
theorem Mb.set4 {w : World} {m t bn bm L I K : Nat} {N : Tab} {rf rs : Int} (h : Mb w m t bn bm L I K N rf rs) (r : Int) : Mb (w.setCell ⟨m, 4, none⟩ (.int .i64 r)) m t bn bm L I K N rf r := by
  obtain ⟨x, hx⟩ := h.c5
  refine ⟨h.hd.set (by omega) _, ?_, World.cell?_setCell_same _ _ _ h.c4, ⟨x, ?_⟩, fun q => ?_⟩
  · rw [World.cell?_setCell_other _ _ _ _ (by simp)]; exact h.c3
  · rw [World.cell?_setCell_other _ _ _ _ (by simp)]; exact hx
  · rw [World.frozen?_setCell]; exact h.fz q
/-- a whole machine in memory -/
structure Mch (w : World) (m t bn bm K : Nat) (N : Tab) (ls : List Ln) (rf rs rb : Int) : Prop where
  hd : Mk w m t bn bm (latches ls).length (named 1 ls).length K N
  c3 : w.cell? ⟨m, 3, none⟩ = some (.int .i64 rf)
  c4 : w.cell? ⟨m, 4, none⟩ = some (.int .i64 rs)
  c5 : w.cell? ⟨m, 5, none⟩ = some (.int .i64 rb)
  vf : Val N rf (firstF ls (latches ls).length)
  vs : Val N rs (stepF ls (latches ls).length)
  vb : Val N rb (badF ls)
theorem Mch.keeps {w w' : World} {m t bn bm K : Nat} {N : Tab} {ls : List Ln} {rf rs rb : Int} {S : List Nat} (h : Mch w m t bn bm K N ls rf rs rb) (hk : Keeps S w w') (hm : m ∉ S) (h1 : t ∉ S) (h2 : bn ∉ S) (h3 : bm ∉ S) : Mch w' m t bn bm K N ls rf rs rb :=
  ⟨h.hd.keeps hk hm h1 h2 h3, hk.cell h.c3 hm, hk.cell h.c4 hm, hk.cell h.c5 hm, h.vf, h.vs, h.vb⟩
theorem Mch.step {w w' : World} {m t bn bm K K' : Nat} {N N' : Tab} {ls : List Ln} {rf rs rb : Int} (h : Mch w m t bn bm K N ls rf rs rb) (hm : Mk w' m t bn bm (latches ls).length (named 1 ls).length K' N') (he : Ext N N') (hk : Keeps [t, bn, bm] w w') : Mch w' m t bn bm K' N' ls rf rs rb :=
  ⟨hm, hk.cell h.c3 h.hd.off, hk.cell h.c4 h.hd.off, hk.cell h.c5 h.hd.off, he _ _ h.vf, he _ _ h.vs, he _ _ h.vb⟩
/-- a function's name is 0 just if the function is false everywhere -/
theorem Mk.zero_iff {w : World} {m t bn bm L I K : Nat} {N : Tab} (h : Mk w m t bn bm L I K N) {r : Int} {F : Fun} (hv : Val N r F) : r = 0 ↔ ∀ a, F a = false := by
  obtain ⟨sz, last, hT, _, _⟩ := h.tab
  have h0 := val_zero h
  rw [canon_iff hT.wf hv.1 h0.1]
  constructor
  · intro he a; rw [← hv.2, he a, h0.2]
  · intro hf a; rw [hv.2, hf a, h0.2]
theorem Mk.none_iff {w : World} {m t bn bm L I K : Nat} {N : Tab} (h : Mk w m t bn bm L I K N) {r : Int} {F : Fun} (hv : Val N r F) {X : Nat → Prop} (hX : SetF L F X) : r = 0 ↔ ∀ s, s < 2 ^ L → ¬ X s := by
  have hL := h.hL
  rw [h.zero_iff hv]
  constructor
  · intro hf s hs hx
    have := (hX.mem s hs).2 hx
    rw [hf] at this
    cases this
  · intro hx; exact hX.empty (by omega) hx
/-- functions that are the first levels of states -/
def FunS (N : Tab) (ls : List Ln) (rs : List Int) : Prop := ∀ j (hj : j < rs.length), ∃ F, Val N rs[j] F ∧ SetF (latches ls).length F (lev (sysOf ls) j)
theorem FunS.ext {N N' : Tab} {ls : List Ln} {rs : List Int} (h : FunS N ls rs) (he : Ext N N') : FunS N' ls rs := fun j hj => by
  obtain ⟨F, h1, h2⟩ := h j hj
  exact ⟨F, he _ _ h1, h2⟩
theorem FunS.snoc {N : Tab} {ls : List Ln} {rs : List Int} (h : FunS N ls rs) {r : Int} {F : Fun} (hv : Val N r F) (hF : SetF (latches ls).length F (lev (sysOf ls) rs.length)) : FunS N ls (rs ++ [r]) := fun j hj => by
  by_cases e : j < rs.length
  · rw [List.getElem_append_left e]; exact h j e
  · have : j = rs.length := by simp at hj; omega
    subst this
    rw [List.getElem_append_right (by omega)]
    simpa using ⟨F, hv, hF⟩
def cellsF (rs : List Int) : List Value := rs.map fun r => .int .i64 r
theorem cellsF_snoc (rs : List Int) (r : Int) : cellsF (rs ++ [r]) = cellsF rs ++ [.int .i64 r] := by simp [cellsF]
def lenOf : Value → Nat
  | .slice _ n _ => n
  | _ => 0
theorem two_pow_le {L n : Nat} (h : L ≤ n) : 2 ^ L ≤ 2 ^ n := Nat.pow_le_pow_right (by omega) h

theorem push_keeps {base T : Nat} {wr w1 : World} {v : Value} {n k : Nat} {xs : List Value} {o : Obj} (hrow : wr.ownsRow base T k v n xs) (hg : (wr.alloc o).grownBy w1 v.ownBlock) : Keeps (v.ownBlock.toList) wr w1 ∧ ∀ x, x < base → x ∉ v.ownBlock.toList :=
  ⟨((Keeps.refl _ _).alloc o).grown hg (fun k e => Or.inl (by simp [e])), fun x hx hin => by have := own_base hrow x (by simpa using hin); omega⟩
theorem push_old {base T : Nat} {w wr w1 : World} {v : Value} {n k : Nat} {xs : List Value} {o : Obj} {S : List Nat} (hrow : wr.ownsRow base T k v n xs) (hg : (wr.alloc o).grownBy w1 v.ownBlock) (hb : w.heap.size ≤ base) (hk : Keeps S w wr) : Keeps S w w1 := by
  obtain ⟨h1, h2⟩ := push_keeps hrow hg
  refine ((hk.mono (S' := S ++ v.ownBlock.toList) (by intro i hi; exact List.mem_append_left _ hi)).trans (h1.mono (by intro i hi; exact List.mem_append_right _ hi))).strike (fun i hi hlt => ?_)
  rcases List.mem_append.1 hi with h | h
  · exact h
  · exact absurd h (h2 i (by omega))

theorem wrap_pow (n : Nat) (hn : n < 5) : wrap64 (2 ^ n) = ((2 ^ n : Nat) : Int) := by
  have h1 : (2 : Int) ^ n = ((2 ^ n : Nat) : Int) := by rw [Int.natCast_pow]; rfl
  have h2 : 2 ^ n ≤ 2 ^ 4 := Nat.pow_le_pow_right (by omega) (by omega)
  rw [h1]
  obtain ⟨P, hP⟩ : ∃ P, P = 2 ^ n := ⟨_, rfl⟩
  rw [← hP] at h2 ⊢
  exact IntWalk.wrap64_in _ ⟨by omega, by omega⟩

end Go.Proofs.YtmgjegokkbghlaaGreatDoor
