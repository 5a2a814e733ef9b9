/- The walks of New, hold. -/
import Derived.Test.YtmgjegokkbghlaaGreatFind
namespace Go.Proofs.YtmgjegokkbghlaaGreat
open Go.RowKit Go.Maps Bdd
attribute [local go_sem ↓] Go.wp_at_zero Go.wp_at_succ

abbrev Fun := (Int → Bool) → Bool

/-- A STORE by what it holds: V h is the function of the handle h. -/
def St (w : World) (s hb t bn bm : Nat) {L : Nat} (od : Ord L) (nh sz : Nat) (lim given : Int) (V : Int → Option Fun) (lb : Int) : Prop :=
  ∃ N last H, StAt w s hb t bn bm sz nh od lim given N last H ∧ Trim N H ∧ (∀ h, V h = (H h).map (FV N od)) ∧ last ≤ lb ∧ (∀ h, (V h).isSome = true → h ≤ given) ∧ sz ≤ nh * (pw L - 1) ∧ nh ≤ 60

def addV {α : Type} (V : Int → Option α) (h : Int) (f : α) : Int → Option α := fun x => if x = h then some f else V x
theorem addV_same {α : Type} (V : Int → Option α) (h : Int) (f : α) : addV V h f h = some f := by simp [addV]
theorem addV_other {α : Type} (V : Int → Option α) {h x : Int} (f : α) (e : x ≠ h) : addV V h f x = V x := by simp [addV, e]
def delV {α : Type} (V : Int → Option α) (h : Int) : Int → Option α := fun x => if x = h then none else V x
theorem heldG_add (H : Int → Option Int) (h f : Int) (v : Value) : setG (heldG H) (.int .i64 h) (some (.int .i64 f)) v = heldG (addV H h f) v := by
  by_cases e : v = .int .i64 h
  · subst e; rw [setG_same]; simp [heldG, addV]
  · rw [setG_other _ _ e]
    unfold heldG
    split
    · rename_i x
      rw [addV_other _ _ (fun ex => e (by rw [ex]))]
    · rfl
theorem heldG_del (H : Int → Option Int) (h : Int) (v : Value) : setG (heldG H) (.int .i64 h) none v = heldG (delV H h) v := by
  by_cases e : v = .int .i64 h
  · subst e; rw [setG_same]; simp [heldG, delV]
  · rw [setG_other _ _ e]
    unfold heldG
    split
    · rename_i x
      have : x ≠ h := fun ex => e (by rw [ex])
      simp [delV, this]
    · rfl

/-- what a closure must give -/
def Gives (w' : World) (t bn bm sz : Nat) {L : Nat} (od : Ord L) (N : Tab) (last : Int) (F : Fun) (w : World) (e : Ending) : Prop :=
  ∃ r N1 last1 sz1, e = .returned (.int .i64 r) ∧ TabAt w' t bn bm sz1 N1 (L : Int) last1 ∧ Sub N N1 ∧ Ok N1 0 r ∧ (∀ a, FV N1 od r a = F a) ∧ last ≤ last1 ∧ last1 ≤ last + 100000 ∧ sz1 ≤ sz + 100000 ∧ Keeps [t, bn, bm] w w'

/-- what hold comes to -/
def Held1 (w : World) (s hb t bn bm : Nat) {L : Nat} (od : Ord L) (nh : Nat) (lim given : Int) (V : Int → Option Fun) (lb : Int) (F : Fun) (e : Ending) (w' : World) : Prop :=
  (60 ≤ nh ∧ e = .returned (.tuple #[.int .i64 0, .int .i64 4]) ∧ (∃ sz, St w' s hb t bn bm od nh sz lim given V lb) ∧ Keeps [] w w') ∨
  (nh < 60 ∧ ∃ sz2, sz2 ≤ (nh + 1) * (pw L - 1) ∧ Keeps [s, hb, t, bn, bm] w w' ∧
    (((sz2 : Int) ≤ lim ∧ e = .returned (.tuple #[.int .i64 (given + 1), .int .i64 0]) ∧ St w' s hb t bn bm od (nh + 1) sz2 lim (given + 1) (addV V (given + 1) F) (lb + 100000)) ∨
     (lim < (sz2 : Int) ∧ e = .returned (.tuple #[.int .i64 0, .int .i64 5]) ∧ (∃ sz3, St w' s hb t bn bm od nh sz3 lim given V (lb + 100000)) ∧
       ∃ w2 N2 last2 H2, StAt w2 s hb t bn bm sz2 (nh + 1) od lim given N2 last2 H2 ∧ Trim N2 H2 ∧ ∀ h, addV V (given + 1) F h = (H2 h).map (FV N2 od))))

/-- a new handle -/
theorem StAt.add {w w' : World} {s hb t bn bm sz nh L : Nat} {od : Ord L} {lim given : Int} {N : Tab} {last : Int} {H : Int → Option Int} (h : StAt w s hb t bn bm sz nh od lim given N last H) {f : Int} (hf : Ok N 0 f) (hg : w.grownBy w' (some hb)) (hm : MapIs w' Tryz.prog 3 hb (nh + 1) (setG (heldG H) (.int .i64 (given + 1)) (some (.int .i64 f)))) :
    StAt w' s hb t bn bm sz (nh + 1) od lim given N last (addV H (given + 1) f) := by
  have hk : Keeps [hb] w w' := (Keeps.refl _ _).grown hg (by simp)
  have hs : s ∉ [hb] := by simp; exact h.held.ne_cell h.c0
  have g0 := h.g0
  have g1 := h.g1
  refine ⟨h.tab.keeps hk (by simp; exact h.held.ne_cell h.tab.c0) (by simp; exact fun e => h.n1 e.symm) (by simp; exact fun e => h.n2 e.symm), hk.cell h.c0 hs, hk.cell h.c1 hs, hk.cell h.c2 hs, hk.cell h.c3 hs, hk.cell h.c4 hs, (hk.frozen (p := ⟨s, 1, none⟩) (cell_lt h.c1) hs).trans h.f1, hm.congr (fun v _ _ => heldG_add H _ f v), h.ord.keeps hk (by simp; exact h.oh), h.pos, h.n1, h.n2, h.n3, h.n4, h.n5, ?_, ?_, h.g0, h.g1⟩
  · intro x g hx
    by_cases e : x = given + 1
    · subst e; rw [addV_same] at hx; cases hx; exact hf
    · rw [addV_other _ _ e] at hx; exact h.ok x g hx
  · intro x g hx
    by_cases e : x = given + 1
    · omega
    · rw [addV_other _ _ e] at hx; exact h.hr x g hx
/-- a handle less -/
theorem StAt.del {w w' : World} {s hb t bn bm sz nh L nh' : Nat} {od : Ord L} {lim given : Int} {N : Tab} {last : Int} {H : Int → Option Int} (h : StAt w s hb t bn bm sz nh od lim given N last H) (x : Int) (hg : w.grownBy w' (some hb)) (hm : MapIs w' Tryz.prog 3 hb nh' (setG (heldG H) (.int .i64 x) none)) :
    StAt w' s hb t bn bm sz nh' od lim given N last (delV H x) := by
  have hk : Keeps [hb] w w' := (Keeps.refl _ _).grown hg (by simp)
  have hs : s ∉ [hb] := by simp; exact h.held.ne_cell h.c0
  refine ⟨h.tab.keeps hk (by simp; exact h.held.ne_cell h.tab.c0) (by simp; exact fun e => h.n1 e.symm) (by simp; exact fun e => h.n2 e.symm), hk.cell h.c0 hs, hk.cell h.c1 hs, hk.cell h.c2 hs, hk.cell h.c3 hs, hk.cell h.c4 hs, (hk.frozen (p := ⟨s, 1, none⟩) (cell_lt h.c1) hs).trans h.f1, hm.congr (fun v _ _ => heldG_del H _ v), h.ord.keeps hk (by simp; exact h.oh), h.pos, h.n1, h.n2, h.n3, h.n4, h.n5, ?_, ?_, h.g0, h.g1⟩
  · intro y g hy
    unfold delV at hy
    split at hy
    · cases hy
    · exact h.ok y g hy
  · intro y g hy
    unfold delV at hy
    split at hy
    · cases hy
    · exact h.hr y g hy
theorem del_add {α : Type} (V : Int → Option α) (h : Int) (f : α) (hn : V h = none) : delV (addV V h f) h = V := by
  funext x
  unfold delV addV
  split
  · rename_i e; rw [e, hn]
  · rfl
theorem StAt.give {w : World} {s hb t bn bm sz nh L : Nat} {od : Ord L} {lim given : Int} {N : Tab} {last : Int} {H : Int → Option Int} (h : StAt w s hb t bn bm sz nh od lim given N last H) (hg : given + 1 ≤ 4611686018427387904) : StAt (w.setCell ⟨s, 1, none⟩ (.int .i64 (given + 1))) s hb t bn bm sz nh od lim (given + 1) N last H := by
  have hk : Keeps [s] w (w.setCell ⟨s, 1, none⟩ (.int .i64 (given + 1))) := (Keeps.refl _ _).setCell _ (Or.inl (by simp)) _
  have g0 := h.g0
  have o : ∀ i v, i ≠ 1 → w.cell? ⟨s, i, none⟩ = some v → (w.setCell ⟨s, 1, none⟩ (.int .i64 (given + 1))).cell? ⟨s, i, none⟩ = some v := fun i v hi hv => by
    rw [World.cell?_setCell_other _ _ _ _ (by first | (simp; done) | (simp; omega))]; exact hv
  refine ⟨h.tab.keeps hk (by simp; exact fun e => h.n3 e.symm) (by simp; exact fun e => h.tab.names.ne_cell h.c0 e.symm) (by simp; exact fun e => h.tab.nodes.ne_cell h.c0 e.symm), o 0 _ (by omega) h.c0, World.cell?_setCell_same _ _ _ h.c1, o 2 _ (by omega) h.c2, o 3 _ (by omega) h.c3, o 4 _ (by omega) h.c4, by rw [World.frozen?_setCell]; exact h.f1, h.held.keeps hk (by simp; exact fun e => h.held.ne_cell h.c0 e.symm), h.ord.keeps hk (by simp; exact h.n4), h.pos, h.n1, h.n2, h.n3, h.n4, h.n5, h.ok, h.hr, by omega, hg⟩

theorem FV_keep {N1 : Tab} {L : Nat} {od : Ord L} {last1 : Int} {K : Int → Bool} (hw1 : Wf N1 (L : Int) last1) (hc : Closed N1 K) {r : Int} (hr : Ok N1 0 r) (hK : ∀ n, N1 r = some n → K r = true) (a : Int → Bool) : FV (keep N1 K) od r a = FV N1 od r a := E_keep hw1 hc hr hK _
theorem E_trim {N N1 : Tab} {L : Nat} {od : Ord L} {last last1 : Int} {K : Int → Bool} {H : Int → Option Int} (hw : Wf N (L : Int) last) (hw1 : Wf N1 (L : Int) last1) (hs : Sub N N1) (hc : Closed N1 K) (hok : ∀ h f, H h = some f → Ok N 0 f) (hK : ∀ h f, H h = some f → ∀ n, N1 f = some n → K f = true) (x : Int) :
    (H x).map (FV N od) = (H x).map (FV (keep N1 K) od) := by
  cases hx : H x with
  | none => rfl
  | some f =>
    simp only [Option.map_some]
    congr 1
    funext a
    unfold FV
    rw [E_keep hw1 hc ((hok x f hx).sub hs) (hK x f hx), E_sub hw hw1 hs (hok x f hx)]

theorem hold_nh {w : World} {hb nh : Nat} {given : Int} {H : Int → Option Int} {G : Value → Option Value} (hn : H (given + 1) = none) (hm : MapIs w Tryz.prog 3 hb (if (heldG H (.int .i64 (given + 1))).isSome then nh else nh + 1) G) : MapIs w Tryz.prog 3 hb (nh + 1) G := by
  have e : heldG H (.int .i64 (given + 1)) = none := by simp only [heldG, hn]; rfl
  rw [e] at hm
  exact hm
theorem hold_nh' {w : World} {hb nh : Nat} {x f : Int} {H : Int → Option Int} {G : Value → Option Value} (hn : H x = some f) (hm : MapIs w Tryz.prog 3 hb (if (heldG H (.int .i64 x)).isSome then nh + 1 - 1 else nh + 1) G) : MapIs w Tryz.prog 3 hb nh G := by
  have e : heldG H (.int .i64 x) = some (.int .i64 f) := by simp only [heldG, hn]; rfl
  rw [e] at hm
  exact hm

end Go.Proofs.YtmgjegokkbghlaaGreat
