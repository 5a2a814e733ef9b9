/- Two neighbouring levels exchanged: plain mathematics. Ranges over a map of nodes; sizes of the two maps; the walks of take, cross. The walk of take. A table on the way from one order to the next: put, join, level, branches, cross. The walk of cross. Lemmas for the walk of Exchange. The walk of Exchange. The order turned: exchange of a store. In one order the same functions have as many nodes: whatever the names. exchange of a store. move of a store. arrange, settle, Sift, Reorder, Order of a store. arrange, isOrder, Order, Reorder of a store. Order, Reorder of a store. Reorder of what is no order. -/
import Derived.Test.YtmgjegokkbghlaaGreatOrder
import Derived.Test.YtmgjegokkbghlaaGreatPerm
import Derived.Test.YtmgjegokkbghlaaGreatKeys
import Derived.Deep.MidRow
import Derived.WalkMore
import Derived.Deep.LoopGhost
import Derived.Maps.AppendAt
import Derived.Test.YtmgjegokkbghlaaGreatAsks
import Derived.Test.YtmgjegokkbghlaaGreatSizeOne
import Derived.ArgAppend
import Derived.OpenShut
namespace Go.Proofs.YtmgjegokkbghlaaGreat
open Go.RowKit Go.Maps Bdd

/-- the one function of a node -/
def JoinOf (A : Tab) (k x y r : Int) : Prop := (x = y ∧ r = x) ∨ (x ≠ y ∧ A r = some ⟨k, x, y⟩)
/-- does a function ask first at this level? -/
def AtLv (N : Tab) (k x : Int) : Prop := ∃ m, N x = some m ∧ m.lv = k
/-- does a node's part ask at the next level? -/
def Cr (N : Tab) (l : Int) (n : Nd) : Prop := AtLv N (l + 1) n.lo ∨ AtLv N (l + 1) n.hi

/-- ON THE WAY: A has what is found by now; D: the lower ones that are done, S: those that sink, P: those that cross. -/
structure ExS (N A : Tab) (l last lastc : Int) (D S P : Int → Prop) : Prop where
  other : ∀ f n, N f = some n → n.lv ≠ l → n.lv ≠ l + 1 → A f = some n
  low1 : ∀ f n, N f = some n → n.lv = l + 1 → D f → A f = some ⟨l, n.lo, n.hi⟩
  low0 : ∀ f n, N f = some n → n.lv = l + 1 → ¬ D f → A f = none
  sink1 : ∀ f n, N f = some n → n.lv = l → ¬ Cr N l n → S f → A f = some ⟨l + 1, n.lo, n.hi⟩
  sink0 : ∀ f n, N f = some n → n.lv = l → ¬ Cr N l n → ¬ S f → A f = none
  cr1 : ∀ f n, N f = some n → n.lv = l → Cr N l n → P f → ∃ a b, A f = some ⟨l, a, b⟩ ∧ JoinOf A (l + 1) (part N n.lo (l + 1) false) (part N n.hi (l + 1) false) a ∧ JoinOf A (l + 1) (part N n.lo (l + 1) true) (part N n.hi (l + 1) true) b
  cr0 : ∀ f n, N f = some n → n.lv = l → Cr N l n → ¬ P f → A f = none
  new : ∀ f m, A f = some m → N f = none → last < f ∧ m.lv = l + 1 ∧ m.lo ≠ m.hi ∧ Ok N (l + 2) m.lo ∧ Ok N (l + 2) m.hi
  rg : ∀ f m, A f = some m → 2 ≤ f ∧ f ≤ lastc
  le : last ≤ lastc
  uniq : ∀ f g m, A f = some m → A g = some m → f = g

section
variable {N A : Tab} {top l last lastc : Int} {D S P : Int → Prop}

theorem ExS.cases (h : ExS N A l last lastc D S P) {g : Int} {m : Nd} (hm : A g = some m) :
    (N g = none ∧ last < g ∧ m.lv = l + 1 ∧ m.lo ≠ m.hi ∧ Ok N (l + 2) m.lo ∧ Ok N (l + 2) m.hi) ∨ ∃ n, N g = some n ∧
      ((n.lv ≠ l ∧ n.lv ≠ l + 1 ∧ m = n) ∨ (n.lv = l + 1 ∧ D g ∧ m = ⟨l, n.lo, n.hi⟩) ∨ (n.lv = l ∧ ¬ Cr N l n ∧ S g ∧ m = ⟨l + 1, n.lo, n.hi⟩) ∨
       (n.lv = l ∧ Cr N l n ∧ P g ∧ ∃ a b, m = ⟨l, a, b⟩ ∧ JoinOf A (l + 1) (part N n.lo (l + 1) false) (part N n.hi (l + 1) false) a ∧ JoinOf A (l + 1) (part N n.lo (l + 1) true) (part N n.hi (l + 1) true) b)) := by
  cases hn : N g with
  | none =>
    exact Or.inl ⟨rfl, h.new g m hm hn⟩
  | some n =>
    refine Or.inr ⟨n, rfl, ?_⟩
    by_cases e1 : n.lv = l
    · by_cases ec : Cr N l n
      · by_cases ep : P g
        · obtain ⟨a, b, h1, h2, h3⟩ := h.cr1 g n hn e1 ec ep
          rw [h1] at hm
          cases hm
          exact Or.inr (Or.inr (Or.inr ⟨e1, ec, ep, a, b, rfl, h2, h3⟩))
        · rw [h.cr0 g n hn e1 ec ep] at hm; cases hm
      · by_cases es : S g
        · rw [h.sink1 g n hn e1 ec es] at hm; cases hm
          exact Or.inr (Or.inr (Or.inl ⟨e1, ec, es, rfl⟩))
        · rw [h.sink0 g n hn e1 ec es] at hm; cases hm
    · by_cases e2 : n.lv = l + 1
      · by_cases ed : D g
        · rw [h.low1 g n hn e2 ed] at hm; cases hm
          exact Or.inr (Or.inl ⟨e2, ed, rfl⟩)
        · rw [h.low0 g n hn e2 ed] at hm; cases hm
      · rw [h.other g n hn e1 e2] at hm; cases hm
        exact Or.inl ⟨e1, e2, rfl⟩

theorem ok_drop (_hw : Wf N top last) {k x : Int} (hx : Ok N k x) (hne : ¬ AtLv N k x) : Ok N (k + 1) x := by
  rcases hx with h | h | ⟨n, hn, hl⟩
  · exact Or.inl h
  · exact Or.inr (Or.inl h)
  · refine Or.inr (Or.inr ⟨n, hn, ?_⟩)
    have : n.lv ≠ k := fun e => hne ⟨n, hn, e⟩
    omega
theorem part_ok2 (hw : Wf N top last) {k x : Int} (hx : Ok N k x) (b : Bool) : Ok N (k + 1) (part N x k b) := by
  by_cases e : AtLv N k x
  · obtain ⟨m, hm, hl⟩ := e
    have h1 := hw.lo x m hm
    have h2 := hw.hi x m hm
    rw [hl] at h1 h2
    unfold part
    rw [hm]
    simp only [hl, if_true]
    cases b
    · exact h1
    · exact h2
  · have h1 := ok_drop hw hx e
    have : part N x k b = x := by
      unfold part
      split
      · rename_i n hn
        rw [if_neg (fun e' => e ⟨n, hn, e'⟩)]
      · rfl
    rw [this]
    exact h1
theorem part_id {k x : Int} {b : Bool} (e : ¬ AtLv N k x) : part N x k b = x := by
  unfold part
  split
  · rename_i n hn
    rw [if_neg (fun e' => e ⟨n, hn, e'⟩)]
  · rfl
theorem part_at {k x : Int} {m : Nd} {b : Bool} (hm : N x = some m) (hl : m.lv = k) : part N x k b = if b then m.hi else m.lo := by
  unfold part
  rw [hm]
  simp only [hl, if_true]
/-- two parts tell the function -/
theorem part_inj (hw : Wf N top last) {k x y : Int} (h0 : part N x k false = part N y k false) (h1 : part N x k true = part N y k true) : x = y := by
  by_cases ex : AtLv N k x
  · obtain ⟨m, hm, hl⟩ := ex
    have hne := hw.ne x m hm
    rw [part_at hm hl] at h0 h1
    simp only [Bool.false_eq_true, if_false, if_true] at h0 h1
    by_cases ey : AtLv N k y
    · obtain ⟨m', hm', hl'⟩ := ey
      rw [part_at hm' hl'] at h0 h1
      simp only [Bool.false_eq_true, if_false, if_true] at h0 h1
      have : m = m' := by cases m; cases m'; simp_all
      subst this
      exact hw.uniq x y m hm hm'
    · rw [part_id ey] at h0 h1
      exact absurd (h0.trans h1.symm) hne
  · rw [part_id ex] at h0 h1
    by_cases ey : AtLv N k y
    · obtain ⟨m', hm', hl'⟩ := ey
      have hne := hw.ne y m' hm'
      rw [part_at hm' hl'] at h0 h1
      simp only [Bool.false_eq_true, if_false, if_true] at h0 h1
      exact absurd (h0.symm.trans h1) hne
    · rw [part_id ey] at h0
      exact h0

/-- what is found at the level below is none of what lies deeper -/
theorem ExS.deep (_hw : Wf N top last) (h : ExS N A l last lastc D S P) {x r : Int} {m : Nd} (hx : Ok N (l + 2) x) (hm : A r = some m) (hl : m.lv = l + 1 ∨ m.lv = l) : r ≠ x := by
  rintro rfl
  rcases hx with rfl | rfl | ⟨n, hn, hn2⟩
  · have := (h.rg 0 m hm).1; omega
  · have := (h.rg 1 m hm).1; omega
  · rw [h.other r n hn (by omega) (by omega)] at hm
    cases hm
    omega
/-- join tells its parts -/
theorem ExS.join_inj (hw : Wf N top last) (h : ExS N A l last lastc D S P) {x y x' y' r : Int} (hx : Ok N (l + 2) x) (hx' : Ok N (l + 2) x') (h1 : JoinOf A (l + 1) x y r) (h2 : JoinOf A (l + 1) x' y' r) : x = x' ∧ y = y' := by
  rcases h1 with ⟨e1, e2⟩ | ⟨e1, e2⟩ <;> rcases h2 with ⟨e3, e4⟩ | ⟨e3, e4⟩
  · exact ⟨e2.symm.trans e4, by rw [← e1, ← e3]; exact e2.symm.trans e4⟩
  · exact absurd e2 (h.deep hw hx e4 (Or.inl rfl))
  · exact absurd e4 (h.deep hw hx' e2 (Or.inl rfl))
  · rw [e2] at e4
    cases e4
    exact ⟨rfl, rfl⟩
theorem JoinOf.mono {A A' : Tab} {k x y r : Int} (h : JoinOf A k x y r) (hs : Sub A A') : JoinOf A' k x y r := by
  rcases h with h | ⟨h1, h2⟩
  · exact Or.inl h
  · exact Or.inr ⟨h1, hs _ _ h2⟩

theorem inj_upd {f : Int} {m : Nd} (h : ∀ f g m, A f = some m → A g = some m → f = g) (hfr : ∀ g, A g ≠ some m) : ∀ f' g' m', upd A f m f' = some m' → upd A f m g' = some m' → f' = g' := by
  intro f' g' m' h1 h2
  by_cases e1 : f' = f <;> by_cases e2 : g' = f
  · rw [e1, e2]
  · rw [e1, upd_same] at h1; rw [upd_other _ e2] at h2; cases h1; exact absurd h2 (hfr g')
  · rw [e2, upd_same] at h2; rw [upd_other _ e1] at h1; cases h2; exact absurd h1 (hfr f')
  · rw [upd_other _ e1] at h1; rw [upd_other _ e2] at h2; exact h f' g' m' h1 h2
theorem sub_new {f : Int} {m : Nd} (hf : A f = none) : Sub A (upd A f m) := by
  intro g n hg
  rw [upd_other _ (fun e => by rw [e, hf] at hg; cases hg)]; exact hg

/-- the lower level comes up -/
theorem ExS.low_new (hw : Wf N top last) (h : ExS N A l last last D S (fun _ => False)) {f : Int} {n : Nd} (hn : N f = some n) (hl : n.lv = l + 1) (hD : ¬ D f) : ∀ g, A g ≠ some ⟨l, n.lo, n.hi⟩ := by
  intro g hg
  rcases h.cases hg with ⟨_, h1, _⟩ | ⟨n', hn', h1 | h1 | h1 | h1⟩
  · have := (h.rg g _ hg).2; omega
  · obtain ⟨q1, q2, q3⟩ := h1
    rw [← q3] at q1
    exact q1 rfl
  · obtain ⟨q1, q2, q3⟩ := h1
    have : n = n' := by cases n; cases n'; simp_all
    subst this
    have := hw.uniq f g n hn hn'
    rw [this] at hD
    exact hD q2
  · obtain ⟨q1, q2, q3, q4⟩ := h1
    simp at q4
    omega
  · exact h1.2.2.1
theorem ExS.low_put (hw : Wf N top last) (h : ExS N A l last last D S (fun _ => False)) {f : Int} {n : Nd} (hn : N f = some n) (hl : n.lv = l + 1) (hD : ¬ D f) : ExS N (upd A f ⟨l, n.lo, n.hi⟩) l last last (fun g => D g ∨ g = f) S (fun _ => False) := by
  have hfr := h.low_new hw hn hl hD
  have hf0 := h.low0 f n hn hl hD
  have oth : ∀ g, g ≠ f → upd A f ⟨l, n.lo, n.hi⟩ g = A g := fun g hg => upd_other _ hg
  have dif : ∀ g m, N g = some m → m.lv ≠ l + 1 → g ≠ f := fun g m hg hm e => by rw [e, hn] at hg; cases hg; exact hm hl
  refine ⟨fun g m hg h1 h2 => by rw [oth g (dif g m hg h2)]; exact h.other g m hg h1 h2, fun g m hg h1 h2 => ?_, fun g m hg h1 h2 => ?_, fun g m hg h1 => by rw [oth g (dif g m hg (by omega))]; exact h.sink1 g m hg h1, fun g m hg h1 => by rw [oth g (dif g m hg (by omega))]; exact h.sink0 g m hg h1, fun g m hg h1 h2 h3 => h3.elim, fun g m hg h1 => by rw [oth g (dif g m hg (by omega))]; exact h.cr0 g m hg h1, fun g m hg h1 => ?_, fun g m hg => ?_, h.le, inj_upd h.uniq hfr⟩
  · by_cases e : g = f
    · subst e; rw [hn] at hg; cases hg; exact upd_same _ _ _
    · rw [oth g e]; exact h.low1 g m hg h1 (h2.resolve_right e)
  · have e : g ≠ f := fun e => h2 (Or.inr e)
    rw [oth g e]; exact h.low0 g m hg h1 (fun q => h2 (Or.inl q))
  · have e : g ≠ f := fun e => by rw [e, hn] at h1; cases h1
    rw [oth g e] at hg; exact h.new g m hg h1
  · by_cases e : g = f
    · subst e; exact hw.range g n hn
    · rw [oth g e] at hg; exact h.rg g m hg

/-- a node of the upper level sinks -/
theorem ExS.sink_new (hw : Wf N top last) (h : ExS N A l last last D S (fun _ => False)) {f : Int} {n : Nd} (hn : N f = some n) (hl : n.lv = l) (hS : ¬ S f) : ∀ g, A g ≠ some ⟨l + 1, n.lo, n.hi⟩ := by
  intro g hg
  rcases h.cases hg with ⟨_, h1, _⟩ | ⟨n', hn', h1 | h1 | h1 | h1⟩
  · have := (h.rg g _ hg).2; omega
  · obtain ⟨q1, q2, q3⟩ := h1
    rw [← q3] at q2
    exact q2 rfl
  · obtain ⟨q1, q2, q3⟩ := h1
    simp at q3
    omega
  · obtain ⟨q1, q2, q3, q4⟩ := h1
    have : n = n' := by cases n; cases n'; simp_all
    subst this
    have := hw.uniq f g n hn hn'
    rw [this] at hS
    exact hS q3
  · exact h1.2.2.1
theorem ExS.sink_put (hw : Wf N top last) (h : ExS N A l last last D S (fun _ => False)) {f : Int} {n : Nd} (hn : N f = some n) (hl : n.lv = l) (hc : ¬ Cr N l n) (hS : ¬ S f) : ExS N (upd A f ⟨l + 1, n.lo, n.hi⟩) l last last D (fun g => S g ∨ g = f) (fun _ => False) := by
  have hfr := h.sink_new hw hn hl hS
  have hf0 := h.sink0 f n hn hl hc hS
  have oth : ∀ g, g ≠ f → upd A f ⟨l + 1, n.lo, n.hi⟩ g = A g := fun g hg => upd_other _ hg
  have dif : ∀ g m, N g = some m → m.lv ≠ l → g ≠ f := fun g m hg hm e => by rw [e, hn] at hg; cases hg; exact hm hl
  refine ⟨fun g m hg h1 h2 => by rw [oth g (dif g m hg h1)]; exact h.other g m hg h1 h2, fun g m hg h1 => by rw [oth g (dif g m hg (by omega))]; exact h.low1 g m hg h1, fun g m hg h1 => by rw [oth g (dif g m hg (by omega))]; exact h.low0 g m hg h1, fun g m hg h1 h2 h3 => ?_, fun g m hg h1 h2 h3 => ?_, fun g m hg h1 h2 h3 => h3.elim, fun g m hg h1 h2 h3 => ?_, fun g m hg h1 => ?_, fun g m hg => ?_, h.le, inj_upd h.uniq hfr⟩
  · by_cases e : g = f
    · subst e; rw [hn] at hg; cases hg; exact upd_same _ _ _
    · rw [oth g e]; exact h.sink1 g m hg h1 h2 (h3.resolve_right e)
  · have e : g ≠ f := fun e => h3 (Or.inr e)
    rw [oth g e]; exact h.sink0 g m hg h1 h2 (fun q => h3 (Or.inl q))
  · have e : g ≠ f := fun e => by subst e; rw [hn] at hg; cases hg; exact hc h2
    rw [oth g e]; exact h.cr0 g m hg h1 h2 h3
  · have e : g ≠ f := fun e => by rw [e, hn] at h1; cases h1
    rw [oth g e] at hg; exact h.new g m hg h1
  · by_cases e : g = f
    · subst e; exact hw.range g n hn
    · rw [oth g e] at hg; exact h.rg g m hg
/-- a node that crosses is passed by at first -/
theorem ExS.sink_skip (h : ExS N A l last last D S (fun _ => False)) {f : Int} {n : Nd} (hn : N f = some n) (hc : Cr N l n) : ExS N A l last last D (fun g => S g ∨ g = f) (fun _ => False) := by
  refine ⟨h.other, h.low1, h.low0, fun g m hg h1 h2 h3 => ?_, fun g m hg h1 h2 h3 => h.sink0 g m hg h1 h2 (fun q => h3 (Or.inl q)), fun g m hg h1 h2 h3 => h3.elim, h.cr0, h.new, h.rg, h.le, h.uniq⟩
  refine h.sink1 g m hg h1 h2 (h3.resolve_right (fun e => ?_))
  subst e; rw [hn] at hg; cases hg; exact h2 hc

/-- a new node of the level below -/
theorem ExS.new_put (hw : Wf N top last) (h : ExS N A l last lastc D S P) {x y : Int} (hx : Ok N (l + 2) x) (hy : Ok N (l + 2) y) (hne : x ≠ y) (hno : ∀ g, A g ≠ some ⟨l + 1, x, y⟩) : ExS N (upd A (lastc + 1) ⟨l + 1, x, y⟩) l last (lastc + 1) D S P := by
  have hA : A (lastc + 1) = none := by
    cases hm : A (lastc + 1) with
    | none => rfl
    | some m => have := (h.rg _ m hm).2; omega
  have hNn : N (lastc + 1) = none := by
    cases hm : N (lastc + 1) with
    | none => rfl
    | some m => have := (hw.range _ m hm).2; have := h.le; omega
  have dif : ∀ g m, N g = some m → g ≠ lastc + 1 := fun g m hg e => by rw [e, hNn] at hg; cases hg
  have hs := sub_new (m := ⟨l + 1, x, y⟩) hA
  have oth : ∀ g, g ≠ lastc + 1 → upd A (lastc + 1) ⟨l + 1, x, y⟩ g = A g := fun g hg => upd_other _ hg
  have hone := hw.one
  refine ⟨fun g m hg h1 h2 => hs _ _ (h.other g m hg h1 h2), fun g m hg h1 h2 => hs _ _ (h.low1 g m hg h1 h2), fun g m hg h1 h2 => by rw [oth g (dif g m hg)]; exact h.low0 g m hg h1 h2, fun g m hg h1 h2 h3 => hs _ _ (h.sink1 g m hg h1 h2 h3), fun g m hg h1 h2 h3 => by rw [oth g (dif g m hg)]; exact h.sink0 g m hg h1 h2 h3, fun g m hg h1 h2 h3 => ?_, fun g m hg h1 h2 h3 => by rw [oth g (dif g m hg)]; exact h.cr0 g m hg h1 h2 h3, fun g m hg h1 => ?_, fun g m hg => ?_, by have := h.le; omega, inj_upd h.uniq hno⟩
  · obtain ⟨a, b, q1, q2, q3⟩ := h.cr1 g m hg h1 h2 h3
    exact ⟨a, b, hs _ _ q1, q2.mono hs, q3.mono hs⟩
  · by_cases e : g = lastc + 1
    · subst e; rw [upd_same] at hg; cases hg; exact ⟨by have := h.le; omega, rfl, hne, hx, hy⟩
    · rw [oth g e] at hg; exact h.new g m hg h1
  · by_cases e : g = lastc + 1
    · have := h.le; omega
    · rw [oth g e] at hg; have := h.rg g m hg; omega

/-- a node crosses -/
theorem ExS.cr_new (hw : Wf N top last) (h : ExS N A l last lastc D S P) {f : Int} {n : Nd} (hn : N f = some n) (hl : n.lv = l) (hc : Cr N l n) (hP : ¬ P f) {a b : Int}
    (ja : JoinOf A (l + 1) (part N n.lo (l + 1) false) (part N n.hi (l + 1) false) a) (jb : JoinOf A (l + 1) (part N n.lo (l + 1) true) (part N n.hi (l + 1) true) b) : ∀ g, A g ≠ some ⟨l, a, b⟩ := by
  have hlo := hw.lo f n hn
  have hhi := hw.hi f n hn
  rw [hl] at hlo hhi
  have e2 : l + 1 + 1 = l + 2 := by omega
  have plo : ∀ v, Ok N (l + 2) (part N n.lo (l + 1) v) := fun v => e2 ▸ part_ok2 hw hlo v
  intro g hg
  rcases h.cases hg with ⟨_, _, h1, _⟩ | ⟨n', hn', h1 | h1 | h1 | h1⟩
  · simp at h1; omega
  · obtain ⟨q1, q2, q3⟩ := h1
    rw [← q3] at q1
    exact q1 rfl
  · obtain ⟨q1, q2, q3⟩ := h1
    simp only [Nd.mk.injEq, true_and] at q3
    obtain ⟨qa, qb⟩ := q3
    have hlo' := hw.lo g n' hn'
    have hhi' := hw.hi g n' hn'
    rw [q1, e2] at hlo' hhi'
    have ka : part N n.lo (l + 1) false = part N n.hi (l + 1) false := by
      rcases ja with ⟨r1, _⟩ | ⟨_, r2⟩
      · exact r1
      · exact absurd qa (h.deep hw hlo' r2 (Or.inl rfl))
    have kb : part N n.lo (l + 1) true = part N n.hi (l + 1) true := by
      rcases jb with ⟨r1, _⟩ | ⟨_, r2⟩
      · exact r1
      · exact absurd qb (h.deep hw hhi' r2 (Or.inl rfl))
    exact hw.ne f n hn (part_inj hw ka kb)
  · obtain ⟨q1, q2, q3, q4⟩ := h1
    simp only [Nd.mk.injEq] at q4
    omega
  · obtain ⟨q1, q2, q3, a', b', q4, ja', jb'⟩ := h1
    simp only [Nd.mk.injEq, true_and] at q4
    obtain ⟨qa, qb⟩ := q4
    subst qa qb
    have hlo' := hw.lo g n' hn'
    rw [q1] at hlo'
    have plo' : ∀ v, Ok N (l + 2) (part N n'.lo (l + 1) v) := fun v => e2 ▸ part_ok2 hw hlo' v
    obtain ⟨r1, r2⟩ := h.join_inj hw (plo false) (plo' false) ja ja'
    obtain ⟨r3, r4⟩ := h.join_inj hw (plo true) (plo' true) jb jb'
    have hlo2 := part_inj hw r1 r3
    have hhi2 := part_inj hw r2 r4
    have : n = n' := by cases n; cases n'; simp_all
    subst this
    rw [hw.uniq f g n hn hn'] at hP
    exact hP q3
theorem ExS.cr_put (hw : Wf N top last) (h : ExS N A l last lastc D S P) {f : Int} {n : Nd} (hn : N f = some n) (hl : n.lv = l) (hc : Cr N l n) (hP : ¬ P f) {a b : Int}
    (ja : JoinOf A (l + 1) (part N n.lo (l + 1) false) (part N n.hi (l + 1) false) a) (jb : JoinOf A (l + 1) (part N n.lo (l + 1) true) (part N n.hi (l + 1) true) b) : ExS N (upd A f ⟨l, a, b⟩) l last lastc D S (fun g => P g ∨ g = f) := by
  have hfr := h.cr_new hw hn hl hc hP ja jb
  have hf0 := h.cr0 f n hn hl hc hP
  have hs := sub_new (m := ⟨l, a, b⟩) hf0
  have oth : ∀ g, g ≠ f → upd A f ⟨l, a, b⟩ g = A g := fun g hg => upd_other _ hg
  have dif : ∀ g m, N g = some m → m.lv ≠ l → g ≠ f := fun g m hg hm e => by rw [e, hn] at hg; cases hg; exact hm hl
  have dif2 : ∀ g m, N g = some m → ¬ Cr N l m → g ≠ f := fun g m hg hm e => by rw [e, hn] at hg; cases hg; exact hm hc
  refine ⟨fun g m hg h1 h2 => hs _ _ (h.other g m hg h1 h2), fun g m hg h1 h2 => hs _ _ (h.low1 g m hg h1 h2), fun g m hg h1 h2 => by rw [oth g (dif g m hg (by omega))]; exact h.low0 g m hg h1 h2, fun g m hg h1 h2 h3 => hs _ _ (h.sink1 g m hg h1 h2 h3), fun g m hg h1 h2 h3 => by rw [oth g (dif2 g m hg h2)]; exact h.sink0 g m hg h1 h2 h3, fun g m hg h1 h2 h3 => ?_, fun g m hg h1 h2 h3 => ?_, fun g m hg h1 => ?_, fun g m hg => ?_, h.le, inj_upd h.uniq hfr⟩
  · by_cases e : g = f
    · subst e; rw [hn] at hg; cases hg; exact ⟨a, b, upd_same _ _ _, ja.mono hs, jb.mono hs⟩
    · obtain ⟨a', b', q1, q2, q3⟩ := h.cr1 g m hg h1 h2 (h3.resolve_right e)
      exact ⟨a', b', hs _ _ q1, q2.mono hs, q3.mono hs⟩
  · have e : g ≠ f := fun e => h3 (Or.inr e)
    rw [oth g e]; exact h.cr0 g m hg h1 h2 (fun q => h3 (Or.inl q))
  · have e : g ≠ f := fun e => by rw [e, hn] at h1; cases h1
    rw [oth g e] at hg; exact h.new g m hg h1
  · by_cases e : g = f
    · subst e; have := hw.range g n hn; have := h.le; omega
    · rw [oth g e] at hg; exact h.rg g m hg

/-! ### all done -/
theorem ExS.ok (_hl0 : 0 ≤ l) (h : ExS N A l last lastc D S P) (hD : ∀ f, D f) (hS : ∀ f, S f) (hP : ∀ f, AtLv N l f → P f) {j x : Int} (hx : Ok N j x) (hj : j ≤ l ∨ l + 2 ≤ j) : Ok A j x := by
  rcases hx with hx | hx | ⟨n, hn, hl⟩
  · exact Or.inl hx
  · exact Or.inr (Or.inl hx)
  · by_cases e1 : n.lv = l
    · by_cases ec : Cr N l n
      · obtain ⟨a, b, q, _⟩ := h.cr1 x n hn e1 ec (hP x ⟨n, hn, e1⟩)
        exact Or.inr (Or.inr ⟨_, q, by simp; omega⟩)
      · exact Or.inr (Or.inr ⟨_, h.sink1 x n hn e1 ec (hS x), by simp; omega⟩)
    · by_cases e2 : n.lv = l + 1
      · exact Or.inr (Or.inr ⟨_, h.low1 x n hn e2 (hD x), by simp; omega⟩)
      · exact Or.inr (Or.inr ⟨n, h.other x n hn e1 e2, hl⟩)
theorem ExS.wf (hw : Wf N top last) (hl0 : 0 ≤ l) (hl1 : l + 1 < top) (h : ExS N A l last lastc D S P) (hD : ∀ f, D f) (hS : ∀ f, S f) (hP : ∀ f, AtLv N l f → P f) : Wf A top lastc := by
  have okk : ∀ {j x : Int}, Ok N j x → (j ≤ l ∨ l + 2 ≤ j) → Ok A j x := fun hx hj => h.ok hl0 hD hS hP hx hj
  have e2 : l + 1 + 1 = l + 2 := by omega
  have jo : ∀ {x y r : Int}, Ok N (l + 2) x → JoinOf A (l + 1) x y r → Ok A (l + 1) r := by
    intro x y r hx hj
    rcases hj with ⟨_, rfl⟩ | ⟨_, q⟩
    · exact (okk hx (Or.inr (by omega))).mono (by omega)
    · exact ok_node q
  refine ⟨h.rg, fun f m hm => ?_, fun f m hm => ?_, fun f m hm => ?_, fun f m hm => ?_, h.uniq, by have := hw.one; have := h.le; omega, hw.tops⟩
  · rcases h.cases hm with ⟨_, _, q, _⟩ | ⟨n, hn, ⟨_, _, rfl⟩ | ⟨_, _, rfl⟩ | ⟨_, _, _, rfl⟩ | ⟨_, _, _, a, b, rfl, _⟩⟩
    · omega
    · exact hw.lv f m hn
    · simp; omega
    · simp; omega
    · simp; omega
  · rcases h.cases hm with ⟨_, _, q, _, q1, q2⟩ | ⟨n, hn, ⟨q1, q2, rfl⟩ | ⟨q1, _, rfl⟩ | ⟨q1, q2, _, rfl⟩ | ⟨q1, _, _, a, b, rfl, ja, jb⟩⟩
    · rw [q, e2]; exact okk q1 (Or.inr (by omega))
    · exact okk (hw.lo f m hn) (by omega)
    · have := hw.lo f n hn
      rw [q1, e2] at this
      exact (okk this (Or.inr (by omega))).mono (by simp)
    · have := hw.lo f n hn
      rw [q1] at this
      have := ok_drop hw this (fun q => q2 (Or.inl q))
      exact okk this (Or.inr (by simp; omega))
    · have := hw.lo f n hn
      rw [q1] at this
      exact jo (e2 ▸ part_ok2 hw this false) ja
  · rcases h.cases hm with ⟨_, _, q, _, q1, q2⟩ | ⟨n, hn, ⟨q1, q2, rfl⟩ | ⟨q1, _, rfl⟩ | ⟨q1, q2, _, rfl⟩ | ⟨q1, _, _, a, b, rfl, ja, jb⟩⟩
    · rw [q, e2]; exact okk q2 (Or.inr (by omega))
    · exact okk (hw.hi f m hn) (by omega)
    · have := hw.hi f n hn
      rw [q1, e2] at this
      exact (okk this (Or.inr (by omega))).mono (by simp)
    · have := hw.hi f n hn
      rw [q1] at this
      have := ok_drop hw this (fun q => q2 (Or.inr q))
      exact okk this (Or.inr (by simp; omega))
    · have := hw.lo f n hn
      rw [q1] at this
      exact jo (e2 ▸ part_ok2 hw this true) jb
  · rcases h.cases hm with ⟨_, _, q, q0, q1, q2⟩ | ⟨n, hn, ⟨q1, q2, rfl⟩ | ⟨q1, _, rfl⟩ | ⟨q1, q2, _, rfl⟩ | ⟨q1, qc, _, a, b, rfl, ja, jb⟩⟩
    · exact q0
    · exact hw.ne f m hn
    · exact hw.ne f n hn
    · exact hw.ne f n hn
    · intro hab
      simp only at hab
      subst hab
      have hlo := hw.lo f n hn
      have hhi := hw.hi f n hn
      rw [q1] at hlo hhi
      obtain ⟨r1, r2⟩ := h.join_inj hw (e2 ▸ part_ok2 hw hlo false) (e2 ▸ part_ok2 hw hlo true) ja jb
      rcases qc with ⟨m, hm, hml⟩ | ⟨m, hm, hml⟩
      · rw [part_at hm hml, part_at hm hml] at r1
        exact hw.ne _ m hm (by simpa using r1)
      · rw [part_at hm hml, part_at hm hml] at r2
        exact hw.ne _ m hm (by simpa using r2)

/-- two levels, each in the other's place -/
def swk (l k : Int) : Int := if k = l then l + 1 else if k = l + 1 then l else k
theorem swk_swk (l k : Int) : swk l (swk l k) = k := by
  unfold swk
  by_cases e1 : k = l
  · rw [if_pos e1, if_neg (by omega), if_pos rfl, e1]
  · rw [if_neg e1]
    by_cases e2 : k = l + 1
    · rw [if_pos e2, if_pos rfl, e2]
    · rw [if_neg e2, if_neg e1, if_neg e2]
theorem ExS.E (hw : Wf N top last) (hl0 : 0 ≤ l) (hl1 : l + 1 < top) (h : ExS N A l last lastc D S P) (hD : ∀ f, D f) (hS : ∀ f, S f) (hP : ∀ f, AtLv N l f → P f) {j f : Int} (hf : Ok N j f) (a : Int → Bool) : E A f a = E N f (fun k => a (swk l k)) := by
  have hwA := h.wf hw hl0 hl1 hD hS hP
  have s0 : swk l l = l + 1 := by simp [swk]
  have s1 : swk l (l + 1) = l := by simp [swk]
  refine ok_ind (P := fun f => Bdd.E A f a = Bdd.E N f (fun k => a (swk l k))) hw ?_ ?_ ?_ hf
  · rw [E_zero hw, E_zero hwA]
  · rw [E_one hw, E_one hwA]
  · intro f n hn i1 i2
    rw [E_node hw hn, ← i1, ← i2]
    by_cases e1 : n.lv = l
    · rw [e1, s0]
      by_cases ec : Cr N l n
      · obtain ⟨x, y, q, ja, jb⟩ := h.cr1 f n hn e1 ec (hP f ⟨n, hn, e1⟩)
        rw [E_node hwA q]
        have jE : ∀ {x y r : Int}, JoinOf A (l + 1) x y r → Bdd.E A r a = if a (l + 1) then Bdd.E A y a else Bdd.E A x a := by
          intro x y r hj
          rcases hj with ⟨r1, r2⟩ | ⟨_, r2⟩
          · rw [r2, r1]; simp
          · rw [E_node hwA r2]
        have pE : ∀ z, Bdd.E A z a = if a l then Bdd.E A (part N z (l + 1) true) a else Bdd.E A (part N z (l + 1) false) a := by
          intro z
          by_cases ez : AtLv N (l + 1) z
          · obtain ⟨m, hm, hml⟩ := ez
            rw [E_node hwA (h.low1 z m hm hml (hD z)), part_at hm hml, part_at hm hml]
            simp
          · rw [part_id ez, part_id ez]; simp
        rw [jE ja, jE jb, pE n.lo, pE n.hi]
        cases a l <;> cases a (l + 1) <;> simp
      · rw [E_node hwA (h.sink1 f n hn e1 ec (hS f))]
    · by_cases e2 : n.lv = l + 1
      · rw [E_node hwA (h.low1 f n hn e2 (hD f)), e2, s1]
      · rw [E_node hwA (h.other f n hn e1 e2)]
        have : swk l n.lv = n.lv := by simp [swk, e1, e2]
        rw [this]
end
end Go.Proofs.YtmgjegokkbghlaaGreat

namespace Go.Proofs.YtmgjegokkbghlaaGreat
open Go.RowKit Go.Maps Bdd
open Go.WideElems (Fit rd rg rd_key rd_val rg_of)
attribute [local go_sem ↓] Go.wp_at_zero Go.wp_at_succ

theorem namesG_inj {A : Tab} (hu : ∀ f g m, A f = some m → A g = some m → f = g) {f : Int} {n : Nd} (h : A f = some n) : namesG A (nodeV n) = some (.int .i64 f) := by
  have hex : ∃ f' n', A f' = some n' ∧ nodeV n = nodeV n' := ⟨f, n, h, rfl⟩
  unfold namesG
  rw [dif_pos hex]
  obtain ⟨n', h1, h2⟩ := hex.choose_spec
  have := nodeV_inj h2
  subst this
  rw [hu _ f n h1 h]
theorem namesG_back {A : Tab} (hu : ∀ f g m, A f = some m → A g = some m → f = g) {key v : Value} (h : namesG A key = some v) : ∃ f n, A f = some n ∧ key = nodeV n ∧ v = .int .i64 f := by
  unfold namesG at h
  split at h
  · rename_i hex
    obtain ⟨f, n, h1, h2⟩ := hex
    have : namesG A (nodeV n) = some (.int .i64 f) := namesG_inj hu h1
    refine ⟨f, n, h1, h2, ?_⟩
    unfold namesG at this
    rw [dif_pos ⟨f, n, h1, rfl⟩] at this
    cases h
    subst h2
    exact Option.some.inj this
  · cases h
/-- both maps of a table have as many entries -/
theorem same_size {w w' : World} {bn bm n1 n2 : Nat} {A : Tab} (hu : ∀ f g m, A f = some m → A g = some m → f = g) (hf : ∀ f m, A f = some m → Fits f ∧ Fits m.lv ∧ Fits m.lo ∧ Fits m.hi) (h1 : MapIs w Tryz.prog 132 bn n1 (namesG A)) (h2 : MapIs w' Tryz.prog 95 bm n2 (nodesG A)) : n1 = n2 := by
  classical
  obtain ⟨l1, d1, e1, k1, q1⟩ := h1.keys lawNode
  obtain ⟨l2, d2, e2, k2, q2⟩ := h2.keys lawFn
  have a1 : ∀ kl ∈ l1, ∃ f n, A f = some n ∧ keyOf Tryz.prog 132 (nodeV n) = some kl := by
    intro kl hkl
    obtain ⟨key, hkey⟩ := q1 kl hkl
    obtain ⟨v, hv⟩ := Option.isSome_iff_exists.1 ((k1 key kl hkey).2 hkl)
    obtain ⟨f, n, r1, r2, _⟩ := namesG_back hu hv
    exact ⟨f, n, r1, by rw [← r2]; exact hkey⟩
  have a2 : ∀ kl ∈ l2, ∃ f n, A f = some n ∧ keyOf Tryz.prog 95 (.int .i64 f) = some kl := by
    intro kl hkl
    obtain ⟨key, hkey⟩ := q2 kl hkl
    obtain ⟨v, hv⟩ := Option.isSome_iff_exists.1 ((k2 key kl hkey).2 hkl)
    obtain ⟨f, n, r1, r2, _⟩ := nodesG_back hv
    exact ⟨f, n, r1, by rw [← r2]; exact hkey⟩
  have b1 : ∀ f n, A f = some n → ∃ kl, keyOf Tryz.prog 132 (nodeV n) = some kl ∧ kl ∈ l1 := by
    intro f n hfn
    obtain ⟨_, z1, z2, z3⟩ := hf f n hfn
    obtain ⟨kl, hkl⟩ := key130 z1 z2 z3
    exact ⟨kl, hkl, (k1 _ kl hkl).1 (by show (namesG A (nodeV n)).isSome = true; rw [namesG_inj hu hfn]; rfl)⟩
  have b2 : ∀ f n, A f = some n → ∃ kl, keyOf Tryz.prog 95 (.int .i64 f) = some kl ∧ kl ∈ l2 := by
    intro f n hfn
    have hkl := keyFn (hf f n hfn).1
    exact ⟨_, hkl, (k2 _ _ hkl).1 (by simp [nodesG, hfn])⟩
  rw [← e1, ← e2]
  refine Nat.le_antisymm (map_le (fun kl => if h : kl ∈ l1 then (b2 _ _ (a1 kl h).choose_spec.choose_spec.1).choose else kl) d1 ?_ ?_) (map_le (fun kl => if h : kl ∈ l2 then (b1 _ _ (a2 kl h).choose_spec.choose_spec.1).choose else kl) d2 ?_ ?_)
  · intro x hx y hy e
    simp only [hx, hy, dif_pos] at e
    have p1 := (b2 _ _ (a1 x hx).choose_spec.choose_spec.1).choose_spec.1
    have p2 := (b2 _ _ (a1 y hy).choose_spec.choose_spec.1).choose_spec.1
    rw [e] at p1
    have p3 := lawFn.inj p1 p2
    have p4 := (a1 x hx).choose_spec.choose_spec
    have p5 := (a1 y hy).choose_spec.choose_spec
    simp only [Value.int.injEq, true_and] at p3
    have p8 := Option.some.inj ((p4.1).symm.trans ((congrArg A p3).trans p5.1))
    exact Option.some.inj (p4.2.symm.trans ((congrArg (fun n => keyOf Tryz.prog 132 (nodeV n)) p8).trans p5.2))
  · intro x hx
    simp only [hx, dif_pos]
    exact (b2 _ _ (a1 x hx).choose_spec.choose_spec.1).choose_spec.2
  · intro x hx y hy e
    simp only [hx, hy, dif_pos] at e
    have p1 := (b1 _ _ (a2 x hx).choose_spec.choose_spec.1).choose_spec.1
    have p2 := (b1 _ _ (a2 y hy).choose_spec.choose_spec.1).choose_spec.1
    rw [e] at p1
    have p3 := nodeV_inj (lawNode.inj p1 p2)
    have p4 := (a2 x hx).choose_spec.choose_spec
    have p5 := (a2 y hy).choose_spec.choose_spec
    have p7 := hu _ _ _ (p4.1.trans (congrArg some p3)) p5.1
    exact Option.some.inj (p4.2.symm.trans ((congrArg (fun f => keyOf Tryz.prog 95 (Value.int .i64 f)) p7).trans p5.2))
  · intro x hx
    simp only [hx, dif_pos]
    exact (b1 _ _ (a2 x hx).choose_spec.choose_spec.1).choose_spec.2

section
variable {P : Program} (w : World) {ops : Array Oper} {rest : List Oper} {o : Oper} {a : Act} {Q : Exit → Act → World → Prop}
/-- THE STEP of a range over keys of any type. -/
theorem wpList_nextAny (hg : o.guard = none) (it : Operand) (hop : o.op = Op.next it false) (k : TypeId) (K : Keyed P k) (b r n : Nat) (G : Value → Option Value) (left : Value → Bool) (cnt : Nat)
    (hit : a.eval it = .pointer (some ⟨r, 0, none⟩)) (h : RangeIs w P k b r n G left cnt)
    (hDone : cnt = 0 → (∀ x kl, keyOf P k x = some kl → left x = false) → wpList P ops Q rest (a.put o.dst (.tuple #[.bool false])) w)
    (hMore : ∀ (key v : Value) (kl : Lit) (w' : World) (cnt' : Nat), keyOf P k key = some kl → left key = true → G key = some v → RangeIs w' P k b r n G (strike left key) cnt' → cnt' < cnt →
      w.grownBy w' (some r) → w'.heap.size = w.heap.size → (Instr.entry (.pointer (some ⟨r, 0, none⟩))).run P w' = .ok (.tuple #[key, v]) w' → wpList P ops Q rest (a.put o.dst (.tuple #[.bool true, key, v])) w') :
    wpList P ops Q (o :: rest) a w := by
  obtain ⟨D, lf, hrg, hs, hv, hl⟩ := h
  refine wpList_plain hg fun K' hK' => ?_
  unfold Oper.wp
  rcases hrg.next K o.type with ⟨h0, hlf, hrun⟩ | ⟨key, v, kl, y, w', cnt', hkey, hlk, hvv, hat, hrun, hrg', hlt, hgr, hsz, hen⟩
  · simp [execOp, hop, hit, hrun, Result.andThen]
    exact hK' _ _ (hDone h0 (fun x kl hkx => by rw [← hl _ _ hkx]; exact hlf _))
  · have hy : y.1 = .held v := by obtain ⟨y1, y2⟩ := y; exact tok_eq hvv
    have hG : G key = some v := by
      rw [← hv _ _ hkey]
      exact view_some (has_true_of_atKey hat) (by rw [hat]; exact hy)
    simp [execOp, hop, hit, hrun, Result.andThen]
    refine hK' _ _ (hMore key v kl w' cnt' hkey (by rw [← hl _ _ hkey]; exact hlk) hG ⟨D, _, hrg', hs, hv, fun key' kl' hkey' => ?_⟩ hlt hgr hsz hen)
    by_cases e : kl' = kl
    · subst e
      have := K.inj hkey' hkey
      subst this
      rw [strike_same, WideAt.sameKey_self (K.key hkey)]
      simp
    · rw [strike_other _ (fun e' => e (by rw [e', hkey] at hkey'; cases hkey'; rfl)), sameKey_ne e, hl _ _ hkey']
      simp
end
theorem RangeIs.congr {P : Program} {k : TypeId} {w : World} {b r n : Nat} {G G' : Value → Option Value} {left : Value → Bool} {cnt : Nat} (h : RangeIs w P k b r n G left cnt) (hG : ∀ x kl, keyOf P k x = some kl → G x = G' x) : RangeIs w P k b r n G' left cnt := by
  obtain ⟨D, lf, hrg, hs, hv, hl⟩ := h
  exact ⟨D, lf, hrg, hs, fun key kl hk => (hv key kl hk).trans (hG key kl hk), hl⟩

end Go.Proofs.YtmgjegokkbghlaaGreat

namespace Go.Proofs.YtmgjegokkbghlaaGreat
open Go.RowKit Go.Maps Bdd
attribute [local go_sem ↓] Go.wp_at_zero Go.wp_at_succ

/-- is a function's first node at this level? -/
def atB (N : Tab) (l : Int) (f : Int) : Bool := match N f with | some n => n.lv == l | none => false
theorem atB_iff (N : Tab) (l f : Int) : atB N l f = true ↔ AtLv N l f := by
  unfold atB AtLv
  cases N f with
  | none => simp
  | some n => simp


/-- is the entry of a function's node still to come? -/
def leftN (N : Tab) (left : Value → Bool) (f : Int) : Bool := match N f with | some n => left (nodeV n) | none => false
def restT (N : Tab) (S0 : Int → Bool) (l : Int) (left : Value → Bool) (f : Int) : Bool := S0 f && (!atB N l f || leftN N left f)
def takenT (N : Tab) (S0 : Int → Bool) (l : Int) (left : Value → Bool) (f : Int) : Bool := S0 f && (atB N l f && !leftN N left f)
theorem leftN_strike {N : Tab} {top last : Int} (hw : Wf N top last) {left : Value → Bool} {f : Int} {n : Nd} (hn : N f = some n) (g : Int) : leftN N (strike left (nodeV n)) g = if g = f then false else leftN N left g := by
  unfold leftN
  cases hg : N g with
  | none =>
    by_cases e : g = f
    · rw [e, hn] at hg; cases hg
    · simp [e]
  | some m =>
    by_cases e : g = f
    · subst e
      rw [hn] at hg
      cases hg
      simp [strike_same]
    · simp only [e, if_false]
      refine strike_other _ (fun e' => e ?_)
      have := nodeV_inj e'
      subst this
      exact hw.uniq g f m hg hn

theorem nodes_add {N : Tab} {S S' : Int → Bool} {f : Int} {n : Nd} (hx : N f = some n) (hS' : S' f = true) (hSS : ∀ g, g ≠ f → S' g = S g) (v : Value) : setG (nodesG (keep N S)) (.int .i64 f) (some (nodeV n)) v = nodesG (keep N S') v := by
  by_cases e : v = .int .i64 f
  · subst e; rw [setG_same]
    simp [nodesG, keep, hS', hx]
  · rw [setG_other _ _ e]
    unfold nodesG
    split
    · rename_i x
      have : x ≠ f := fun ex => e (by rw [ex])
      simp only [keep, hSS x this]
    · rfl

/-- 'delete(m, k)' in the round, as it runs -/
theorem RangeIs.dropRun {P : Program} {k : TypeId} {w : World} {b r n : Nat} {G : Value → Option Value} {left : Value → Bool} {cnt : Nat} (h : RangeIs w P k b r n G left cnt) (K : Keyed P k) {t e : TypeId} (ht : P.underlying t = some (.map k e)) {key : Value} {kl : Lit} (hkey : keyOf P k key = some kl) (hleft : left key = false) (ty : TypeId) :
    ∃ w' cnt', (Builtin.delete_ #[t, k] ty #[.map (some b), key]).run P w = .ok (.tuple #[]) w' ∧ RangeIs w' P k b r (if (G key).isSome then n - 1 else n) (setG G key none) left cnt' ∧ cnt' ≤ cnt ∧ w.grownBy w' (some b) := by
  obtain ⟨D, lf, hrg, hs, hv, hl⟩ := h
  have hown := hrg.owns
  obtain ⟨w', cnt', hrun, r1, r2, r3⟩ := hrg.drop K ht hkey ty
  have hsz : Maps.size (D.del kl) = if (G key).isSome then n - 1 else n := by
    have := size_del (k := kl) (hown.tidy K)
    rw [← view_isSome hown kl, hv key kl hkey, hs] at this
    split at this <;> simp_all <;> omega
  refine ⟨w', cnt', hrun, ⟨D.del kl, fun x => lf x && !x.sameKey kl, ?_, hsz, ?_, ?_⟩, r2, r3.grown⟩
  · obtain ⟨es, clock, since, seen, c0, hb', F, _, hD, q⟩ := r1
    refine ⟨es, clock, since, seen, c0, hb', F, ?_, hD, q⟩
    rw [← hsz, hD]
    simp [Maps.size, length_sorted]
  · intro key' kl' hkey'
    by_cases e' : kl' = kl
    · subst e'
      have := K.inj hkey' hkey
      subst this
      rw [setG_same, view_none has_del_same]
    · rw [setG_other _ _ (fun ek => e' (by rw [ek] at hkey'; rw [hkey] at hkey'; cases hkey'; rfl)), ← hv key' kl' hkey']
      unfold view
      rw [has_del_other e', atKey_del_other e']
  · intro key' kl' hkey'
    by_cases e' : kl' = kl
    · subst e'
      have := K.inj hkey' hkey
      subst this
      show (lf kl' && !kl'.sameKey kl') = left key'
      rw [hl _ _ hkey', hleft]; rfl
    · show (lf kl' && !kl'.sameKey kl) = left key'
      rw [sameKey_ne e', hl _ _ hkey']; simp

set_option maxRecDepth 100000 in
set_option maxHeartbeats 2000000 in
theorem take_any {w : World} {t bn n1 : Nat} {N : Tab} {top last l : Int} {S0 : Int → Bool} (hw : Wf N top last) (hbig : last ≤ 4611686018427387904) (c0 : w.cell? ⟨t, 0, none⟩ = some (.map (some bn))) (hm : MapIs w Tryz.prog 132 bn n1 (namesG (keep N S0))) (hn1 : n1 < 1000000) :
    Calls Tryz.prog 124 #[.pointer (some ⟨t, 0, none⟩), .int .i64 l] w fun e w' => ∃ mb cn n1', e = .returned (.map (some mb)) ∧ w.heap.size ≤ mb ∧ MapIs w' Tryz.prog 95 mb cn (nodesG (keep N (fun f => S0 f && atB N l f))) ∧ cn ≤ n1 ∧
      MapIs w' Tryz.prog 132 bn n1' (namesG (keep N (fun f => S0 f && !atB N l f))) ∧ n1' ≤ n1 ∧ Keeps [bn] w w' := by
  have hmm := @run_makeMap Tryz.prog
  have hml : (1000000 : Nat) < maxLen := by decide
  have hlt := hm.lt
  have htl : t < w.heap.size := cell_lt c0
  have hnt := hm.ne_cell c0
  simp only at hnt
  obtain ⟨W, hW⟩ : ∃ W, W = w.alloc (.map #[] 0) := ⟨_, rfl⟩
  have hkW : Keeps [] w W := by rw [hW]; exact (Keeps.refl _ _).alloc _
  have hWs : W.heap.size = w.heap.size + 1 := by rw [hW]; simp
  have hset : MapIs W Tryz.prog 95 w.heap.size 0 (nodesG (fun _ => none)) := by
    rw [hW]; exact (MapIs.made w Tryz.prog 95).congr (fun v _ _ => by unfold nodesG; split <;> rfl)
  have hmW := hm.keeps hkW (by simp)
  have HW : Hid (W = w.alloc (.map #[] 0)) := hW
  have c0' := hkW.cell c0 (by simp)
  rw [hW] at c0'
  clear hW
  go_enter Tryz.func124, Tryz.ntmps124
  go_wp2_with (first
    | (at_range; rw [← HW.out]; refine wpList_rangeIs _ rfl _ 93 rfl 132 95 lawNode Tryz.underlying93 bn n1 (namesG (keep N S0)) rfl hmW ?_; intro w0 hrg0 hg0 hs0; rw [hWs] at hrg0; rw [hWs])
    | go_in)
  go_frame
  obtain ⟨lf, hlf⟩ : ∃ lf : Value → Bool, lf = fun x => (namesG (keep N S0) x).isSome := ⟨_, rfl⟩
  rw [← hlf] at hrg0
  have hS0 : ∀ f n, N f = some n → S0 f = true → leftN N lf f = true := by
    intro f n hn hs
    simp only [leftN, hn, hlf]
    rw [namesG_iff hw (keep_some.2 ⟨hs, hn⟩)]
    rfl
  clear hlf
  have hfits := hw.fitsN hbig
  have HF : Hid (∀ f n, N f = some n → Fits f ∧ Fits n.lv ∧ Fits n.lo ∧ Fits n.hi) := hfits
  have HS0 : Hid (∀ f n, N f = some n → S0 f = true → leftN N lf f = true) := hS0
  clear hfits hS0
  go_loopw [6, 7] (fun _ _ wr => ∃ (left : Value → Bool) (cnt cn n1r : Nat), RangeIs wr Tryz.prog 132 bn (w.heap.size + 1) n1r (namesG (keep N (restT N S0 l left))) left cnt ∧ MapIs wr Tryz.prog 95 w.heap.size cn (nodesG (keep N (takenT N S0 l left))) ∧ n1r ≤ n1 ∧ cn + cnt ≤ n1 ∧ Keeps [bn, w.heap.size, w.heap.size + 1] W wr)
    (fun _ _ wr => wr.rangeLeft bn (w.heap.size + 1))
  case atStart =>
    refine ⟨lf, n1, 0, n1, hrg0.congr (fun x _ _ => ?_), (hset.grown hg0 (by simp)).congr (fun x _ _ => ?_), Nat.le_refl _, by omega, (Keeps.refl _ _).grown hg0 (by simp)⟩
    · refine congrArg (fun T => namesG T x) (keep_congr (S := S0) (S' := restT N S0 l lf) (fun f n hn => ?_))
      unfold restT
      cases hs : S0 f with
      | false => rfl
      | true => simp [HS0.out f n hn hs]
    · refine congrArg (fun T => nodesG T x) ?_
      funext f
      unfold keep takenT
      cases hn : N f with
      | none => simp
      | some n =>
        cases hs : S0 f with
        | false => simp
        | true => rw [HS0.out f n hn hs]; simp
  case round =>
    obtain ⟨left, cnt, cn, n1r, hrg, hmt, hn1r, hcn, hkr⟩ := hrel
    go_wp2_with (first
      | (at_next; refine wpList_nextAny _ rfl _ rfl 132 lawNode bn (w.heap.size + 1) n1r _ left cnt rfl hrg ?_ ?_)
      | go_in)
    · intro hc0 hleft
      go_wp2_with fail
      go_ret
      have hL : ∀ f n, N f = some n → leftN N left f = false := by
        intro f n hn
        obtain ⟨z0, z1, z2, z3⟩ := HF.out f n hn
        obtain ⟨kl, hkl⟩ := key130 z1 z2 z3
        simp only [leftN, hn]
        exact hleft _ kl hkl
      refine ⟨_, cn, n1r, rfl, Nat.le_refl _, hmt.congr (fun x _ _ => ?_), by omega, hrg.owns.congr (fun x _ _ => ?_), hn1r, ((hkW.mono (by simp)).trans hkr).strike (by simp; omega)⟩
      · refine congrArg (fun T => nodesG T x) (keep_congr (fun f n hn => ?_))
        simp [takenT, hL f n hn]
      · refine congrArg (fun T => namesG T x) (keep_congr (fun f n hn => ?_))
        simp [restT, hL f n hn]
    · intro key v kl w1 cnt1 hkey hlk hGk hrg1 hlt1 hg1 hs1 hen
      obtain ⟨f, n, hfn, e1, e2⟩ := namesG_back (A := keep N (restT N S0 l left)) (fun f g m h1 h2 => hw.uniq f g m (keep_some.1 h1).2 (keep_some.1 h2).2) hGk
      obtain ⟨hR, hn⟩ := keep_some.1 hfn
      subst e1 e2
      have hls := leftN_strike (left := left) hw hn
      have hRS : ∀ g, g ≠ f → restT N S0 l (strike left (nodeV n)) g = restT N S0 l left g := fun g hg => by unfold restT; rw [hls g, if_neg hg]
      have hTS : ∀ g, g ≠ f → takenT N S0 l (strike left (nodeV n)) g = takenT N S0 l left g := fun g hg => by unfold takenT; rw [hls g, if_neg hg]
      have hS0f : S0 f = true := by unfold restT at hR; simp at hR; exact hR.1
      have hk1 : Keeps [bn, w.heap.size, w.heap.size + 1] W w1 := hkr.grown hg1 (by simp)
      have hmt1 := hmt.grown hg1 (by simp)
      have HK : Hid (keyOf Tryz.prog 132 (nodeV n) = some kl) := hkey
      have HN : Hid (N f = some n) := hn
      have HFf := (HF.out f n hn).1
      have HRS : Hid (∀ g, g ≠ f → restT N S0 l (strike left (nodeV n)) g = restT N S0 l left g) := hRS
      have HTS : Hid (∀ g, g ≠ f → takenT N S0 l (strike left (nodeV n)) g = takenT N S0 l left g) := hTS
      have HLS : Hid (leftN N (strike left (nodeV n)) f = false) := by show _ = _; rw [hls f, if_pos rfl]
      have HSF : Hid (S0 f = true) := hS0f
      have HGk : Hid (namesG (keep N (restT N S0 l left)) (nodeV n) = some (.int .i64 f)) := hGk
      obtain ⟨left', hleft'⟩ : ∃ left', left' = strike left (nodeV n) := ⟨_, rfl⟩
      have HL' : Hid (left' (nodeV n) = false) := by show _ = _; rw [hleft']; exact strike_same _ _
      rw [← hleft'] at hrg1 HRS HTS HLS
      have HLE : Hid (wr.rangeLeft bn (w.heap.size + 1) = cnt) := hrg.left_eq
      clear hkey hn hR hfn hls hRS hTS hS0f hGk hleft' hlk hrg
      by_cases q : n.lv = l
      · have q' : (n.lv == l) = true := by simp [q]
        have hat : atB N l f = true := by simp [atB, HN.out, q]
        have HAT : Hid (atB N l f = true) := hat
        clear hat q hs1
        obtain ⟨W1, hW1⟩ : ∃ W1, W1 = w1.alloc (.cells #[.int .i64 n.lv, .int .i64 n.lo, .int .i64 n.hi] 132) := ⟨_, rfl⟩
        have kW1 : Keeps [] w1 W1 := by rw [hW1]; exact (Keeps.refl _ _).alloc _
        have b0 : W1.cell? ⟨w1.heap.size, 0, none⟩ = some (.int .i64 n.lv) := by rw [hW1]; simp
        have b1 : W1.cell? ⟨w1.heap.size, 1, none⟩ = some (.int .i64 n.lo) := by rw [hW1]; simp
        have b2 : W1.cell? ⟨w1.heap.size, 2, none⟩ = some (.int .i64 n.hi) := by rw [hW1]; simp
        have hrgW : RangeIs W1 Tryz.prog 132 bn (w.heap.size + 1) n1r (namesG (keep N (restT N S0 l left))) left' cnt1 := by rw [hW1]; exact hrg1.alloc _
        have hmW2 := hmt1.keeps kW1 (by simp)
        obtain ⟨w2, hr2, hm2, hg2⟩ := hmW2.update lawFn Tryz.underlying94 (by omega) (keyFn HFf) (nodeV n)
        have kg2 : Keeps [w.heap.size] W1 w2 := (Keeps.refl _ _).grown hg2 (by simp)
        have hrg2 := hrgW.keeps kg2 (by simp; omega) (by simp)
        obtain ⟨w3, cnt3, hr3, hrg3, hle3, hg3⟩ := (show RangeIs w2.drew Tryz.prog 132 bn (w.heap.size + 1) n1r (namesG (keep N (restT N S0 l left))) left' cnt1 from hrg2).dropRun lawNode Tryz.underlying93 HK.out HL'.out 0
        have hsz1 : W.heap.size ≤ w1.heap.size := hk1.size
        have nB : w1.heap.size ∉ [w.heap.size] := by simp; omega
        have b0' := kg2.cell b0 nB
        have b1' := kg2.cell b1 nB
        have b2' := kg2.cell b2 nB
        have c1 := hk1.cell (hkW.cell c0 (by simp)) (by simp; omega)
        have c2 := kg2.cell (kW1.cell c1 (by simp)) (by simp; omega)
        have hm3 := (show MapIs w2.drew Tryz.prog 95 w.heap.size _ _ from hm2).grown hg3 (by simp; omega)
        have hk3 : Keeps [bn, w.heap.size, w.heap.size + 1] W w3 := ((((hk1.trans (kW1.mono (by simp))).trans (kg2.mono (by simp))).drew).grown hg3 (by simp))
        have HM3 : Hid (MapIs w3 Tryz.prog 95 w.heap.size (if (nodesG (keep N (takenT N S0 l left)) (.int .i64 f)).isSome then cn else cn + 1) (setG (nodesG (keep N (takenT N S0 l left))) (.int .i64 f) (some (nodeV n)))) := hm3
        have HR3 : Hid (RangeIs w3 Tryz.prog 132 bn (w.heap.size + 1) (if (namesG (keep N (restT N S0 l left)) (nodeV n)).isSome then n1r - 1 else n1r) (setG (namesG (keep N (restT N S0 l left))) (nodeV n) none) left' cnt3) := hrg3
        clear hm3 hrg3 hm2 hrg2 hrgW hrg1 hmW2 hmt1
        unfold nodeV trip at hr2 hr3 hen ⊢
        subst hW1
        go_wp2_with fail
        go_region
        go_wp2_with fail
        go_roundw
        case rel =>
          refine ⟨left', cnt3, _, _, HR3.out.congr (fun x _ _ => ?_), HM3.out.congr (fun x _ _ => ?_), ?_, ?_, hk3⟩
          · exact names_strike hw HN.out (by simp [restT, HAT.out, HLS.out]) HRS.out x
          · exact nodes_add HN.out (by simp [takenT, HAT.out, HLS.out, HSF.out]) HTS.out x
          · split <;> omega
          · split <;> omega
        case measure => rw [HR3.out.left_eq, HLE.out]; omega
      · have q' : (n.lv == l) = false := by simp [q]
        have hat : atB N l f = false := by simp [atB, HN.out, q]
        have HAT : Hid (atB N l f = false) := hat
        clear hat
        unfold nodeV trip at hen ⊢
        go_wp2_with fail
        go_roundw
        case rel =>
          refine ⟨left', cnt1, cn, n1r, (hrg1.alloc _).congr (fun x _ _ => ?_), (hmt1.alloc _).congr (fun x _ _ => ?_), hn1r, by omega, hk1.alloc _⟩
          · refine congrArg (fun T => namesG T x) (keep_congr (fun g m hg => ?_))
            by_cases e : g = f
            · subst e; simp [restT, HAT.out]
            · exact (HRS.out g e).symm
          · refine congrArg (fun T => nodesG T x) (keep_congr (fun g m hg => ?_))
            by_cases e : g = f
            · subst e; simp [takenT, HAT.out]
            · exact (HTS.out g e).symm
        case measure => rw [(hrg1.alloc _).left_eq, HLE.out]; exact hlt1

end Go.Proofs.YtmgjegokkbghlaaGreat

namespace Go.Proofs.YtmgjegokkbghlaaGreat
open Go.RowKit Go.Maps Bdd
attribute [local go_sem ↓] Go.wp_at_zero Go.wp_at_succ

/-- what is found, over what was there -/
def ov (A N : Tab) : Tab := fun f => match A f with | some m => some m | none => N f
theorem ov_some {A N : Tab} {f : Int} {m : Nd} (h : A f = some m) : ov A N f = some m := by simp [ov, h]
theorem ov_none {A N : Tab} {f : Int} (h : A f = none) : ov A N f = N f := by simp [ov, h]
theorem ov_upd (A N : Tab) (f : Int) (m : Nd) : ov (upd A f m) N = upd (ov A N) f m := by
  funext g
  by_cases e : g = f
  · subst e; rw [upd_same]; exact ov_some (upd_same _ _ _)
  · rw [upd_other _ e]; simp only [ov, upd_other _ e]

/-- A TABLE ON THE WAY. -/
structure TabX (w : World) (t bn bm n1 n2 : Nat) (A N : Tab) (lastc : Int) : Prop where
  c0 : w.cell? ⟨t, 0, none⟩ = some (.map (some bn))
  c1 : w.cell? ⟨t, 1, none⟩ = some (.map (some bm))
  c2 : w.cell? ⟨t, 2, none⟩ = some (.int .i64 lastc)
  f2 : w.frozen? ⟨t, 2, none⟩ = false
  names : MapIs w Tryz.prog 132 bn n1 (namesG A)
  nodes : MapIs w Tryz.prog 95 bm n2 (nodesG (ov A N))
  ne : bn ≠ bm
  u : ∀ f g m, A f = some m → A g = some m → f = g
  big : lastc ≤ 4611686018427387904
  one : 1 ≤ lastc

section
variable {w w' : World} {t bn bm n1 n2 : Nat} {A N : Tab} {lastc : Int}

theorem TabX.keeps {S : List Nat} (h : TabX w t bn bm n1 n2 A N lastc) (hk : Keeps S w w') (h1 : t ∉ S) (h2 : bn ∉ S) (h3 : bm ∉ S) : TabX w' t bn bm n1 n2 A N lastc :=
  ⟨hk.cell h.c0 h1, hk.cell h.c1 h1, hk.cell h.c2 h1, (hk.frozen (cell_lt h.c2) h1).trans h.f2, h.names.keeps hk h2, h.nodes.keeps hk h3, h.ne, h.u, h.big, h.one⟩
theorem TabX.tn (h : TabX w t bn bm n1 n2 A N lastc) : t ∉ [bn, bm] := by
  have h1 := h.names.ne_cell h.c0
  have h2 := h.nodes.ne_cell h.c0
  simp only at h1 h2
  simp; exact ⟨h1, h2⟩

theorem names_put (hu : ∀ f g m, A f = some m → A g = some m → f = g) {f : Int} {m : Nd} (hA : A f = none) (hfr : ∀ g, A g ≠ some m) (v : Value) : setG (namesG A) (nodeV m) (some (.int .i64 f)) v = namesG (upd A f m) v := by
  have hu' := inj_upd (f := f) hu hfr
  by_cases e : v = nodeV m
  · subst e
    rw [setG_same]
    exact (namesG_inj hu' (upd_same A f m)).symm
  · rw [setG_other _ _ e]
    by_cases hex : ∃ g n, A g = some n ∧ v = nodeV n
    · obtain ⟨g, n, hn, rfl⟩ := hex
      rw [namesG_inj hu hn, namesG_inj hu' (sub_new hA g n hn)]
    · have hex' : ¬ ∃ g n, upd A f m g = some n ∧ v = nodeV n := by
        rintro ⟨g, n, hn, rfl⟩
        by_cases ef : g = f
        · subst ef; rw [upd_same] at hn; cases hn; exact e rfl
        · rw [upd_other _ ef] at hn; exact hex ⟨g, n, hn, rfl⟩
      unfold namesG
      rw [dif_neg hex, dif_neg hex']
theorem nodes_put (f : Int) (m : Nd) (v : Value) : setG (nodesG (ov A N)) (.int .i64 f) (some (nodeV m)) v = nodesG (ov (upd A f m) N) v := by
  rw [ov_upd]
  by_cases e : v = .int .i64 f
  · subst e; rw [setG_same]; simp [nodesG, upd_same]
  · rw [setG_other _ _ e]
    unfold nodesG
    split
    · rename_i x
      rw [upd_other _ (fun ef => e (by rw [ef]))]
    · rfl

theorem put_x (h : TabX w t bn bm n1 n2 A N lastc) {f : Int} {m n : Nd} (hA : A f = none) (hN : N f = some n) (hfr : ∀ g, A g ≠ some m) (hf : Fits f) (hl : Fits m.lv) (hx : Fits m.lo) (hy : Fits m.hi) (hn1 : n1 < maxLen) (hn2 : n2 < maxLen) :
    Calls Tryz.prog 119 #[.pointer (some ⟨t, 0, none⟩), .int .i64 f, trip m.lv m.lo m.hi] w fun e w' => e = .returned (.tuple #[]) ∧ (∃ n1', n1' ≤ n1 + 1 ∧ TabX w' t bn bm n1' n2 (upd A f m) N lastc) ∧ Keeps [bn, bm] w w' := by
  refine (put_any h.c0 h.c1 h.names h.nodes h.ne hf hl hx hy hn1 hn2).mono ?_
  rintro e w' ⟨rfl, r1, r2, hk⟩
  rw [upSz_old (by simp [nodesG, ov_none hA, hN])] at r2
  exact ⟨rfl, ⟨_, upSz_le _ _ _, hk.cell h.c0 h.tn, hk.cell h.c1 h.tn, hk.cell h.c2 h.tn, (hk.frozen (p := ⟨t, 2, none⟩) (cell_lt h.c2) h.tn).trans h.f2, r1.congr (fun v _ _ => names_put h.u hA hfr v), r2.congr (fun v _ _ => nodes_put f m v), h.ne, inj_upd h.u hfr, h.big, h.one⟩, hk⟩

set_option maxRecDepth 100000 in
set_option maxHeartbeats 400000 in
theorem joinX_known {G : Value → Option Value} (c0 : w.cell? ⟨t, 0, none⟩ = some (.map (some bn))) (hm : MapIs w Tryz.prog 132 bn n1 G) {f l x y : Int} (hG : G (trip l x y) = some (.int .i64 f)) (hl : Fits l) (hx : Fits x) (hy : Fits y) (hne : x ≠ y) :
    Calls Tryz.prog 106 #[.pointer (some ⟨t, 0, none⟩), trip l x y] w fun e w' => e = .returned (.int .i64 f) ∧ Keeps [] w w' := by
  obtain ⟨kl, hkey⟩ := key130 hl hx hy
  have hrun : ∀ (o : Obj) (q : Nat), (Instr.lookup 93 (.map (some bn)) (.agg #[.int .i64 l, .int .i64 x, .int .i64 y]) true).run Tryz.prog ((w.alloc o).drewN q) = .ok (.tuple #[.int .i64 f, .bool true]) ((w.alloc o).drewN q) := by
    intro o q
    have := (((hm.alloc o).drewN q).look lawNode Tryz.underlying93 (zeroFn _) hkey).1
    rw [hG] at this
    exact this
  have hb : (x == y) = false := by simp [hne]
  have htn : t < w.heap.size := cell_lt c0
  clear hG hkey
  unfold trip
  go_enter Tryz.func106, Tryz.ntmps106
  go_wp2
  go_quiet (fail)
  go_wp2
  go_ret
  exact ⟨rfl, ((Keeps.refl _ _).alloc _).drewN _⟩

set_option maxRecDepth 100000 in
set_option maxHeartbeats 400000 in
theorem joinX_new {G1 G2 : Value → Option Value} (c0 : w.cell? ⟨t, 0, none⟩ = some (.map (some bn))) (c1 : w.cell? ⟨t, 1, none⟩ = some (.map (some bm))) (c2 : w.cell? ⟨t, 2, none⟩ = some (.int .i64 lastc)) (f2 : w.frozen? ⟨t, 2, none⟩ = false) (h1 : MapIs w Tryz.prog 132 bn n1 G1) (h2 : MapIs w Tryz.prog 95 bm n2 G2) (hbb : bn ≠ bm)
    {l x y : Int} (hG : G1 (trip l x y) = none) (hG2 : G2 (.int .i64 (lastc + 1)) = none) (hl : Fits l) (hx : Fits x) (hy : Fits y) (hne : x ≠ y) (hone : 1 ≤ lastc) (hlast : lastc + 1 ≤ 4611686018427387904) (hn1 : n1 < maxLen) (hn2 : n2 < maxLen) :
    Calls Tryz.prog 106 #[.pointer (some ⟨t, 0, none⟩), trip l x y] w fun e w' => e = .returned (.int .i64 (lastc + 1)) ∧ w'.cell? ⟨t, 2, none⟩ = some (.int .i64 (lastc + 1)) ∧ w'.cell? ⟨t, 0, none⟩ = some (.map (some bn)) ∧ w'.cell? ⟨t, 1, none⟩ = some (.map (some bm)) ∧ w'.frozen? ⟨t, 2, none⟩ = false ∧
      MapIs w' Tryz.prog 132 bn (n1 + 1) (setG G1 (trip l x y) (some (.int .i64 (lastc + 1)))) ∧ MapIs w' Tryz.prog 95 bm (n2 + 1) (setG G2 (.int .i64 (lastc + 1)) (some (trip l x y))) ∧ Keeps [t, bn, bm] w w' := by
  obtain ⟨kl, hkey⟩ := key130 hl hx hy
  have hrun : ∀ (o : Obj) (q : Nat), (Instr.lookup 93 (.map (some bn)) (.agg #[.int .i64 l, .int .i64 x, .int .i64 y]) true).run Tryz.prog ((w.alloc o).drewN q) = .ok (.tuple #[.int .i64 0, .bool false]) ((w.alloc o).drewN q) := by
    intro o q
    have := (((h1.alloc o).drewN q).look lawNode Tryz.underlying93 (zeroFn _) hkey).1
    rw [hG] at this
    exact this
  have hb : (x == y) = false := by simp [hne]
  have htn : t < w.heap.size := cell_lt c0
  have ntt : ¬ w.heap.size = t := by omega
  have HG : Hid (G1 (trip l x y) = none) := hG
  have HG2 : Hid (G2 (.int .i64 (lastc + 1)) = none) := hG2
  obtain ⟨T, hT⟩ : ∃ T, T = trip l x y := ⟨_, rfl⟩
  have HTT : Hid (T = trip l x y) := hT
  rw [← hT]
  have e0 : trip l x y = .agg #[.int .i64 l, .int .i64 x, .int .i64 y] := rfl
  clear hG hG2 hkey
  rw [show (#[Value.pointer (some ⟨t, 0, none⟩), T] : Array Value) = #[.pointer (some ⟨t, 0, none⟩), .agg #[.int .i64 l, .int .i64 x, .int .i64 y]] from by rw [hT]; rfl]
  clear hT e0
  go_enter Tryz.func106, Tryz.ntmps106
  go_wp2
  go_quiet (fail)
  go_wp2
  obtain ⟨W, hW⟩ : ∃ W, W = (((w.alloc (Obj.cells #[Value.int IntKind.i64 l, Value.int IntKind.i64 x, Value.int IntKind.i64 y] 132)).drewN nq).setCell { block := t, off := 2 } (Value.int IntKind.i64 (lastc + 1))) := ⟨_, rfl⟩
  rw [← hW]
  have hK : Keeps [t] w W := by rw [hW]; exact (((Keeps.refl _ _).alloc _).drewN _).setCell _ (Or.inl (by simp)) _
  have m1 := h1.ne_cell c0
  have m2 := h2.ne_cell c0
  simp only at m1 m2
  have hnW := h1.keeps hK (by simp; exact fun e => m1 e.symm)
  have hmW := h2.keeps hK (by simp; exact fun e => m2 e.symm)
  have k0 : W.cell? ⟨t, 0, none⟩ = some (.map (some bn)) := by rw [hW, World.cell?_setCell_other _ _ _ _ (by simp)]; show (w.alloc _).cell? _ = _; rw [World.cell?_alloc_past _ _ _ htn]; exact c0
  have k1 : W.cell? ⟨t, 1, none⟩ = some (.map (some bm)) := by rw [hW, World.cell?_setCell_other _ _ _ _ (by simp)]; show (w.alloc _).cell? _ = _; rw [World.cell?_alloc_past _ _ _ htn]; exact c1
  have k2 : W.cell? ⟨t, 2, none⟩ = some (.int .i64 (lastc + 1)) := by rw [hW]; refine World.cell?_setCell_same _ _ _ (u := .int .i64 lastc) ?_; show (w.alloc _).cell? _ = _; rw [World.cell?_alloc_past _ _ _ htn]; exact c2
  have b0 : W.cell? ⟨w.heap.size, 0, none⟩ = some (.int .i64 l) := by rw [hW, World.cell?_setCell_other _ _ _ _ (by first | (simp; done) | (simp; omega))]; show (w.alloc _).cell? _ = _; simp
  have b1 : W.cell? ⟨w.heap.size, 1, none⟩ = some (.int .i64 x) := by rw [hW, World.cell?_setCell_other _ _ _ _ (by first | (simp; done) | (simp; omega))]; show (w.alloc _).cell? _ = _; simp
  have b2 : W.cell? ⟨w.heap.size, 2, none⟩ = some (.int .i64 y) := by rw [hW, World.cell?_setCell_other _ _ _ _ (by first | (simp; done) | (simp; omega))]; show (w.alloc _).cell? _ = _; simp
  have kf : W.frozen? ⟨t, 2, none⟩ = false := by rw [hW, World.frozen?_setCell]; show (w.alloc _).frozen? _ = _; rw [World.frozen?_alloc_old _ _ _ (by simp; omega)]; exact f2
  clear hW
  have ntn : t ∉ [bn, bm] := by simp; exact ⟨m1, m2⟩
  have m3 := hnW.ne_cell b0
  have m4 := hmW.ne_cell b0
  simp only at m3 m4
  have nbn : w.heap.size ∉ [bn, bm] := by simp; exact ⟨m3, m4⟩
  go_region_held3 (fun w' => w'.cell? ⟨t, 0, none⟩ = some (.map (some bn)) ∧ w'.cell? ⟨t, 1, none⟩ = some (.map (some bm)) ∧ w'.cell? ⟨t, 2, none⟩ = some (.int .i64 (lastc + 1)) ∧ w'.cell? ⟨w.heap.size, 0, none⟩ = some (.int .i64 l) ∧ w'.cell? ⟨w.heap.size, 1, none⟩ = some (.int .i64 x) ∧ w'.cell? ⟨w.heap.size, 2, none⟩ = some (.int .i64 y))
    (first | exact ⟨k0, k1, k2, b0, b1, b2⟩ | exact ⟨hkp.cell k0 ntn, hkp.cell k1 ntn, hkp.cell k2 ntn, hkp.cell b0 nbn, hkp.cell b1 nbn, hkp.cell b2 nbn⟩ | assumption)
    (first
      | (go_at_call 119; refine (put_any (t := t) (bn := bn) (bm := bm) (l := l) (x := x) (y := y) (f := lastc + 1) (w := W.drew) k0 k1 hnW hmW hbb (by unfold Fits; omega) hl hx hy (by omega) (by omega)).mono ?_; rintro e w2 ⟨rfl, hm1, hm2, hkp⟩))
  go_wp2_with fail
  go_ret
  rw [upSz_new HG.out] at hm1
  rw [upSz_new HG2.out] at hm2
  rw [HTT.out]
  exact ⟨rfl, hkp.cell k2 ntn, hkp.cell k0 ntn, hkp.cell k1 ntn, (hkp.frozen (p := ⟨t, 2, none⟩) (cell_lt (w := W) k2) ntn).trans kf, hm1, hm2, (hK.mono (by simp)).trans (((Keeps.refl _ _).drew).trans (hkp.mono (by simp)))⟩

end
end Go.Proofs.YtmgjegokkbghlaaGreat

namespace Go.Proofs.YtmgjegokkbghlaaGreat
open Go.RowKit Go.Maps Bdd
attribute [local go_sem ↓] Go.wp_at_zero Go.wp_at_succ

section
variable {w w' : World} {t bn bm n1 n2 : Nat} {A N : Tab} {top l last lastc : Int} {D S P : Int → Prop}

theorem ok_fits (hw : Wf N top last) (hbig : last ≤ 4611686018427387904) {k x : Int} (hx : Ok N k x) : Fits x := by
  have := hw.one
  rcases hx with rfl | rfl | ⟨m, hm, _⟩
  · unfold Fits; omega
  · unfold Fits; omega
  · have := hw.range x m hm; unfold Fits; omega

theorem part_ov (hw : Wf N top last) (h : ExS N A l last lastc D S P) (hD : ∀ f, D f) {x : Int} (hx : Ok N (l + 1) x) (b : Bool) : part (ov A N) x l b = part N x (l + 1) b := by
  by_cases e : AtLv N (l + 1) x
  · obtain ⟨m, hm, hl⟩ := e
    rw [part_at hm hl, part_at (ov_some (h.low1 x m hm hl (hD x))) rfl]
  · rw [part_id e, part_id]
    rintro ⟨m, hm, hl⟩
    cases hA : A x with
    | some m' =>
      rw [ov_some hA] at hm
      cases hm
      have hr := (h.rg x m hA).1
      rcases hx with rfl | rfl | ⟨n, hn, hnl⟩
      · omega
      · omega
      · have : n.lv ≠ l + 1 := fun e' => e ⟨n, hn, e'⟩
        rw [h.other x n hn (by omega) this] at hA
        cases hA
        omega
    | none =>
      rw [ov_none hA] at hm
      rcases hx with rfl | rfl | ⟨n, hn, hnl⟩
      · rw [hw.zero] at hm; cases hm
      · rw [hw.onee] at hm; cases hm
      · rw [hn] at hm; cases hm; omega

set_option maxRecDepth 100000 in
set_option maxHeartbeats 400000 in
theorem branches_raw {M : Tab} (c1 : w.cell? ⟨t, 1, none⟩ = some (.map (some bm))) (hown : MapIs w Tryz.prog 95 bm n2 (nodesG M)) {f : Int} (hf : Fits f) (l : Int) :
    Calls Tryz.prog 121 #[.pointer (some ⟨t, 0, none⟩), .int .i64 f, .int .i64 l] w fun e w' => e = .returned (.tuple #[.int .i64 (part M f l false), .int .i64 (part M f l true)]) ∧ Keeps [] w w' := by
  have hkey := keyFn hf
  cases hN : M f with
  | none =>
    have hG : nodesG M (.int .i64 f) = none := by simp [nodesG, hN]
    have hl : ∀ b, part M f l b = f := by simp [part, hN]
    rw [hl, hl]
    clear hl hN
    go_enter Tryz.func121, Tryz.ntmps121
    go_wp2_with (first
      | (at_lookup; refine wpList_look_ok _ rfl _ _ 94 rfl 95 132 lawFn Tryz.underlying94 (zeroNode _) bm n2 (nodesG M) rfl hown (.int .i64 f) _ rfl hkey ?_; rw [hG])
      | go_in)
    go_ret2
    exact ⟨rfl, (Keeps.refl _ _).alloc _⟩
  | some n =>
    have hG : nodesG M (.int .i64 f) = some (nodeV n) := by simp [nodesG, hN]
    unfold nodeV trip at hG
    by_cases e : n.lv = l
    · have hl0 : part M f l false = n.lo := by simp [part, hN, e]
      have hl1 : part M f l true = n.hi := by simp [part, hN, e]
      rw [hl0, hl1]
      have e' : (n.lv == l) = true := by simp [e]
      clear hl0 hl1 hN e
      go_enter Tryz.func121, Tryz.ntmps121
      go_wp2_with (first
        | (at_lookup; refine wpList_look_ok _ rfl _ _ 94 rfl 95 132 lawFn Tryz.underlying94 (zeroNode _) bm n2 (nodesG M) rfl hown (.int .i64 f) _ rfl hkey ?_; rw [hG])
        | go_in)
      go_quiet (fail)
      go_wp2
      go_ret2
      exact ⟨rfl, ((Keeps.refl _ _).alloc _).drewN _⟩
    · have hl : ∀ b, part M f l b = f := by simp [part, hN, e]
      rw [hl, hl]
      have e' : (n.lv == l) = false := by simp [e]
      clear hl hN e
      go_enter Tryz.func121, Tryz.ntmps121
      go_wp2_with (first
        | (at_lookup; refine wpList_look_ok _ rfl _ _ 94 rfl 95 132 lawFn Tryz.underlying94 (zeroNode _) bm n2 (nodesG M) rfl hown (.int .i64 f) _ rfl hkey ?_; rw [hG])
        | go_in)
      go_ret2
      exact ⟨rfl, (Keeps.refl _ _).alloc _⟩

set_option maxRecDepth 100000 in
set_option maxHeartbeats 400000 in
theorem level_raw {M : Tab} (c1 : w.cell? ⟨t, 1, none⟩ = some (.map (some bm))) (hown : MapIs w Tryz.prog 95 bm n2 (nodesG M)) {f : Int} (hf : Fits f) :
    Calls Tryz.prog 120 #[.pointer (some ⟨t, 0, none⟩), .int .i64 f] w fun e w' => e = .returned (.int .i64 (lvl M f)) ∧ Keeps [] w w' := by
  have hkey := keyFn hf
  cases hN : M f with
  | none =>
    have hG : nodesG M (.int .i64 f) = none := by simp [nodesG, hN]
    have hl : lvl M f = 9223372036854775807 := by simp [lvl, hN]
    rw [hl]
    clear hl hN
    go_enter Tryz.func120, Tryz.ntmps120
    go_wp2_with (first
      | (at_lookup; refine wpList_look_ok _ rfl _ _ 94 rfl 95 132 lawFn Tryz.underlying94 (zeroNode _) bm n2 (nodesG M) rfl hown (.int .i64 f) _ rfl hkey ?_; rw [hG])
      | go_in)
    go_ret
    exact ⟨rfl, (Keeps.refl _ _).alloc _⟩
  | some n =>
    have hG : nodesG M (.int .i64 f) = some (nodeV n) := by simp [nodesG, hN]
    have hl : lvl M f = n.lv := by simp [lvl, hN]
    rw [hl]
    clear hl hN
    unfold nodeV trip at hG
    go_enter Tryz.func120, Tryz.ntmps120
    go_wp2_with (first
      | (at_lookup; refine wpList_look_ok _ rfl _ _ 94 rfl 95 132 lawFn Tryz.underlying94 (zeroNode _) bm n2 (nodesG M) rfl hown (.int .i64 f) _ rfl hkey ?_; rw [hG])
      | go_in)
    go_ret
    exact ⟨rfl, (Keeps.refl _ _).alloc _⟩

theorem results_cell_mid {P : Program} {fn : Func} {p : Tmp} {ty : TypeId} (h : fn.results = #[.cell p ty]) (tmps : Array Value) (w : World) (g : Nat) (cs : List Value) (d : TypeDesc)
    (hp : tmps.getD p undef = .pointer (some ⟨g, 0, none⟩)) (hc : w.rangeAt g 0 cs) (hu : P.underlying ty = some d) (hd : d.isRow = true) (hi : (P.info? ty).map (·.size) = some cs.length) :
    (results fn tmps).run P w = .ok (.agg cs.toArray) w := by
  have hp' : tmps[p]?.getD undef = .pointer (some ⟨g, 0, none⟩) := by simpa using hp
  simp [results, h, hp', asAddr, run_loadVar_mid w g 0 ty cs d hc hu hd hi]
theorem sizeNode : (Tryz.prog.info? 132).map (·.size) = some 3 := by kernel_rfl
theorem range3 {w : World} {g : Nat} {a b c : Value} (h0 : w.cell? ⟨g, 0, none⟩ = some a) (h1 : w.cell? ⟨g, 1, none⟩ = some b) (h2 : w.cell? ⟨g, 2, none⟩ = some c) : w.rangeAt g 0 [a, b, c] := by
  intro j v hv
  match j, hv with
  | 0, hv => simp at hv; subst hv; exact h0
  | 1, hv => simp at hv; subst hv; exact h1
  | 2, hv => simp at hv; subst hv; exact h2

/-- join on the way -/
theorem join_x (h : TabX w t bn bm n1 n2 A N lastc) (hw : Wf N top last) (he : ExS N A l last lastc D S P) (hbig : last ≤ 4611686018427387904) (hl0 : 0 ≤ l) (hl1 : l < 8) {x y : Int} (hx : Ok N (l + 2) x) (hy : Ok N (l + 2) y) (hlast : lastc + 1 ≤ 4611686018427387904) (hn1 : n1 < maxLen) (hn2 : n2 < maxLen) :
    Calls Tryz.prog 106 #[.pointer (some ⟨t, 0, none⟩), trip (l + 1) x y] w fun e w' => ∃ r A' lastc' n1' n2', e = .returned (.int .i64 r) ∧ TabX w' t bn bm n1' n2' A' N lastc' ∧ ExS N A' l last lastc' D S P ∧ Sub A A' ∧ JoinOf A' (l + 1) x y r ∧ Fits r ∧ lastc' ≤ lastc + 1 ∧ n1' ≤ n1 + 1 ∧ n2' ≤ n2 + 1 ∧ Keeps [t, bn, bm] w w' := by
  have fx := ok_fits hw hbig hx
  have fy := ok_fits hw hbig hy
  have fl : Fits (l + 1) := by unfold Fits; omega
  have hone := h.one
  by_cases e : x = y
  · subst e
    refine (join_eq (l + 1) x).mono ?_
    rintro e w' ⟨rfl, hk⟩
    exact ⟨x, A, lastc, n1, n2, rfl, h.keeps hk (by simp) (by simp) (by simp), he, Sub.refl _, Or.inl ⟨rfl, rfl⟩, fx, by omega, by omega, by omega, hk.mono (by simp)⟩
  · by_cases hex : ∃ g, A g = some ⟨l + 1, x, y⟩
    · obtain ⟨g, hg⟩ := hex
      refine (joinX_known h.c0 h.names (namesG_inj h.u hg) fl fx fy e).mono ?_
      rintro e' w' ⟨rfl, hk⟩
      exact ⟨g, A, lastc, n1, n2, rfl, h.keeps hk (by simp) (by simp) (by simp), he, Sub.refl _, Or.inr ⟨e, hg⟩, by have := he.rg g _ hg; have := h.big; unfold Fits; omega, by omega, by omega, by omega, hk.mono (by simp)⟩
    · have hno : ∀ g, A g ≠ some ⟨l + 1, x, y⟩ := fun g hg => hex ⟨g, hg⟩
      have hA : A (lastc + 1) = none := by
        cases hm : A (lastc + 1) with
        | none => rfl
        | some m => have := (he.rg _ m hm).2; omega
      have hNn : N (lastc + 1) = none := by
        cases hm : N (lastc + 1) with
        | none => rfl
        | some m => have := (hw.range _ m hm).2; have := he.le; omega
      refine (joinX_new h.c0 h.c1 h.c2 h.f2 h.names h.nodes h.ne (namesG_none hno) (by simp [nodesG, ov_none hA, hNn]) fl fx fy e hone hlast hn1 hn2).mono ?_
      rintro e' w' ⟨rfl, r2, r0, r1, rf, m1, m2, hk⟩
      exact ⟨lastc + 1, upd A (lastc + 1) ⟨l + 1, x, y⟩, lastc + 1, n1 + 1, n2 + 1, rfl, ⟨r0, r1, r2, rf, m1.congr (fun v _ _ => names_put h.u hA hno v), m2.congr (fun v _ _ => nodes_put (lastc + 1) ⟨l + 1, x, y⟩ v), h.ne, inj_upd h.u hno, hlast, by omega⟩, he.new_put hw hx hy e hno, sub_new hA, Or.inr ⟨e, upd_same _ _ _⟩, by unfold Fits; omega, by omega, by omega, by omega, hk⟩

set_option maxRecDepth 100000 in
set_option maxHeartbeats 1000000 in
theorem cross_any (h : TabX w t bn bm n1 n2 A N lastc) (hw : Wf N top last) (he : ExS N A l last lastc D S P) (hD : ∀ f, D f) (hbig : last ≤ 4611686018427387904) (hl0 : 0 ≤ l) (hl1 : l < 8) {lv x y : Int} (hx : Ok N (l + 1) x) (hy : Ok N (l + 1) y) (hlast : lastc + 2 ≤ 4611686018427387904) (hn1 : n1 + 1 < maxLen) (hn2 : n2 + 1 < maxLen) :
    Calls Tryz.prog 125 #[.pointer (some ⟨t, 0, none⟩), .int .i64 l, trip lv x y] w fun e w' => ∃ a b A' lastc' n1' n2', e = .returned (trip l a b) ∧ TabX w' t bn bm n1' n2' A' N lastc' ∧ ExS N A' l last lastc' D S P ∧ JoinOf A' (l + 1) (part N x (l + 1) false) (part N y (l + 1) false) a ∧ JoinOf A' (l + 1) (part N x (l + 1) true) (part N y (l + 1) true) b ∧ Fits a ∧ Fits b ∧ lastc' ≤ lastc + 2 ∧ n1' ≤ n1 + 2 ∧ n2' ≤ n2 + 2 ∧ Keeps [t, bn, bm] w w' := by
  have e2 : l + 1 + 1 = l + 2 := by omega
  have p1 : Ok N (l + 2) (part N x (l + 1) false) := e2 ▸ part_ok2 hw hx false
  have p2 : Ok N (l + 2) (part N x (l + 1) true) := e2 ▸ part_ok2 hw hx true
  have p3 : Ok N (l + 2) (part N y (l + 1) false) := e2 ▸ part_ok2 hw hy false
  have p4 : Ok N (l + 2) (part N y (l + 1) true) := e2 ▸ part_ok2 hw hy true
  have fx := ok_fits hw hbig hx
  have fy := ok_fits hw hbig hy
  obtain ⟨W, hW⟩ : ∃ W, W = (w.alloc (Obj.cells #[Value.int IntKind.i64 lv, Value.int IntKind.i64 x, Value.int IntKind.i64 y] 132)).alloc (Obj.cells #[Value.int IntKind.i64 0, Value.int IntKind.i64 0, Value.int IntKind.i64 0] 132) := ⟨_, rfl⟩
  have hkW : Keeps [] w W := by rw [hW]; exact ((Keeps.refl _ _).alloc _).alloc _
  have hW0 := h.keeps hkW (by simp) (by simp) (by simp)
  have b2 : W.cell? ⟨w.heap.size, 2, none⟩ = some (.int .i64 y) := by rw [hW]; exact (((Keeps.refl [] _).alloc _).cell (p := ⟨w.heap.size, 2, none⟩) (by simp) (by simp))
  have hWs : W.heap.size = w.heap.size + 2 := by rw [hW]; simp
  have g0 : W.cell? ⟨w.heap.size + 1, 0, none⟩ = some (.int .i64 0) := by rw [hW]; simp
  have g1 : W.cell? ⟨w.heap.size + 1, 1, none⟩ = some (.int .i64 0) := by rw [hW]; simp
  have g2 : W.cell? ⟨w.heap.size + 1, 2, none⟩ = some (.int .i64 0) := by rw [hW]; simp
  have gf : ∀ i, W.frozen? ⟨w.heap.size + 1, i, none⟩ = false := fun i => by rw [hW]; exact World.frozen?_alloc_at _ _ _ _ (by simp)
  have HW : Hid (W = (w.alloc (Obj.cells #[Value.int IntKind.i64 lv, Value.int IntKind.i64 x, Value.int IntKind.i64 y] 132)).alloc (Obj.cells #[Value.int IntKind.i64 0, Value.int IntKind.i64 0, Value.int IntKind.i64 0] 132)) := hW
  have ltt : t < w.heap.size := cell_lt h.c0
  have ln := h.names.lt
  have lm := h.nodes.lt
  clear hW
  unfold trip
  go_enter Tryz.func125, Tryz.ntmps125
  go_wp2_with fail
  rw [← HW.out]
  refine (branches_raw hW0.c1 hW0.nodes fx l).mono ?_
  rintro e w1 ⟨rfl, hk1⟩
  rw [part_ov hw he hD hx, part_ov hw he hD hx]
  have h1 := hW0.keeps hk1 (by simp) (by simp) (by simp)
  have b2' := hk1.cell b2 (by simp)
  go_wp2_with fail
  refine (branches_raw h1.c1 h1.nodes fy l).mono ?_
  rintro e w2 ⟨rfl, hk2⟩
  rw [part_ov hw he hD hy, part_ov hw he hD hy]
  have h2 := h1.keeps hk2 (by simp) (by simp) (by simp)
  have hk12 := hk1.trans hk2
  obtain ⟨x0, hx0⟩ : ∃ x0, x0 = part N x (l + 1) false := ⟨_, rfl⟩
  obtain ⟨x1, hx1⟩ : ∃ x1, x1 = part N x (l + 1) true := ⟨_, rfl⟩
  obtain ⟨y0, hy0⟩ : ∃ y0, y0 = part N y (l + 1) false := ⟨_, rfl⟩
  obtain ⟨y1, hy1⟩ : ∃ y1, y1 = part N y (l + 1) true := ⟨_, rfl⟩
  rw [← hx0, ← hx1, ← hy0, ← hy1]
  rw [← hx0] at p1
  rw [← hx1] at p2
  rw [← hy0] at p3
  rw [← hy1] at p4
  have HX : Hid (x0 = part N x (l + 1) false ∧ x1 = part N x (l + 1) true ∧ y0 = part N y (l + 1) false ∧ y1 = part N y (l + 1) true) := ⟨hx0, hx1, hy0, hy1⟩
  clear hx0 hx1 hy0 hy1
  go_wp2_with fail
  refine (join_x h2 hw he hbig hl0 hl1 p1 p3 (by omega) (by omega) (by omega)).mono ?_
  rintro e w3 ⟨a, A3, lc3, m1, m2, rfl, h3, he3, hs3, ja, fa, hlc3, hm1, hm2, hk3⟩
  go_wp2_with fail
  refine (join_x h3 hw he3 hbig hl0 hl1 p2 p4 (by omega) (by omega) (by omega)).mono ?_
  rintro e w4 ⟨b, A4, lc4, m3, m4, rfl, h4, he4, hs4, jb, fb, hlc4, hm3, hm4, hk4⟩
  have nG : w.heap.size + 1 ∉ [t, bn, bm] := by simp; omega
  have kk : Keeps [t, bn, bm] W w4 := ((hk12.mono (by simp)).trans hk3).trans hk4
  have g0' := kk.cell g0 nG
  have g1' := kk.cell g1 nG
  have g2' := kk.cell g2 nG
  have gf' : ∀ i, w4.frozen? ⟨w.heap.size + 1, i, none⟩ = false := fun i => (kk.frozen (p := ⟨w.heap.size + 1, i, none⟩) (by simp; omega) nG).trans (gf i)
  have gf0 := gf' 0
  have gf1 := gf' 1
  have gf2 := gf' 2
  go_wp2_with fail
  refine bodyPost_ret (results_cell_mid rfl _ _ (w.heap.size + 1) [.int .i64 l, .int .i64 a, .int .i64 b] _ rfl (range3 ?_ ?_ ?_) Tryz.underlying132 rfl sizeNode) rfl ?_
  · rw [World.cell?_setCell_other _ _ _ _ (by simp), World.cell?_setCell_other _ _ _ _ (by simp)]; exact World.cell?_setCell_same _ _ _ g0'
  · rw [World.cell?_setCell_other _ _ _ _ (by simp)]; refine World.cell?_setCell_same _ _ _ (u := .int .i64 0) ?_; rw [World.cell?_setCell_other _ _ _ _ (by simp)]; exact g1'
  · refine World.cell?_setCell_same _ _ _ (u := .int .i64 0) ?_; rw [World.cell?_setCell_other _ _ _ _ (by simp), World.cell?_setCell_other _ _ _ _ (by simp)]; exact g2'
  · have kz : Keeps [w.heap.size + 1] w4 (((w4.setCell ⟨w.heap.size + 1, 0, none⟩ (.int .i64 l)).setCell ⟨w.heap.size + 1, 1, none⟩ (.int .i64 a)).setCell ⟨w.heap.size + 1, 2, none⟩ (.int .i64 b)) := (((Keeps.refl _ _).setCell _ (Or.inl (by simp)) _).setCell _ (Or.inl (by simp)) _).setCell _ (Or.inl (by simp)) _
    rw [← HX.out.1, ← HX.out.2.1, ← HX.out.2.2.1, ← HX.out.2.2.2]
    exact ⟨a, b, A4, lc4, m3, m4, rfl, h4.keeps kz (by simp; omega) (by simp; omega) (by simp; omega), he4, ja.mono hs4, jb, fa, fb, by omega, by omega, by omega, ((((hkW.mono (S' := [w.heap.size + 1, t, bn, bm]) (by simp)).trans (kk.mono (by simp))).trans (kz.mono (by simp)))).strike (by simp; omega)⟩
end
end Go.Proofs.YtmgjegokkbghlaaGreat

namespace Go.Proofs.YtmgjegokkbghlaaGreat
open Go.RowKit Go.Maps Bdd

section
variable {N A : Tab} {top l last lastc : Int} {D S P D' S' P' : Int → Prop}

theorem ExS.congr (h : ExS N A l last lastc D S P) (hD : ∀ f n, N f = some n → n.lv = l + 1 → (D f ↔ D' f)) (hS : ∀ f n, N f = some n → n.lv = l → ¬ Cr N l n → (S f ↔ S' f)) (hP : ∀ f n, N f = some n → n.lv = l → Cr N l n → (P f ↔ P' f)) : ExS N A l last lastc D' S' P' :=
  ⟨h.other, fun f n hn hl hd => h.low1 f n hn hl ((hD f n hn hl).2 hd), fun f n hn hl hd => h.low0 f n hn hl (fun q => hd ((hD f n hn hl).1 q)), fun f n hn hl hc hs => h.sink1 f n hn hl hc ((hS f n hn hl hc).2 hs), fun f n hn hl hc hs => h.sink0 f n hn hl hc (fun q => hs ((hS f n hn hl hc).1 q)),
    fun f n hn hl hc hp => h.cr1 f n hn hl hc ((hP f n hn hl hc).2 hp), fun f n hn hl hc hp => h.cr0 f n hn hl hc (fun q => hp ((hP f n hn hl hc).1 q)), h.new, h.rg, h.le, h.uniq⟩

/-- what is left when both levels are taken out -/
def midB (N : Tab) (l : Int) (f : Int) : Bool := (true && !atB N l f) && !atB N (l + 1) f
theorem ExS.start (hw : Wf N top last) : ExS N (keep N (midB N l)) l last last (fun _ => False) (fun _ => False) (fun _ => False) := by
  have k0 : ∀ f n, N f = some n → n.lv = l ∨ n.lv = l + 1 → keep N (midB N l) f = none := by
    intro f n hn hl
    unfold keep
    rw [if_neg]
    simp only [midB, atB, hn]
    rcases hl with e | e <;> simp [e]
  refine ⟨fun f n hn h1 h2 => ?_, fun _ _ _ _ h => h.elim, fun f n hn h1 _ => k0 f n hn (Or.inr h1), fun _ _ _ _ _ h => h.elim, fun f n hn h1 _ _ => k0 f n hn (Or.inl h1), fun _ _ _ _ _ h => h.elim, fun f n hn h1 _ _ => k0 f n hn (Or.inl h1), fun f m hm hn => ?_, fun f m hm => hw.range f m (keep_some.1 hm).2, Int.le_refl _, fun f g m hf hg => hw.uniq f g m (keep_some.1 hf).2 (keep_some.1 hg).2⟩
  · exact keep_some.2 ⟨by simp [midB, atB, hn, h1, h2], hn⟩
  · rw [(keep_some.1 hm).2] at hn; cases hn
theorem ov_start : ov (keep N (midB N l)) N = N := by
  funext f
  unfold ov keep
  split
  · rename_i m hm
    split at hm
    · exact hm.symm
    · cases hm
  · rfl
theorem ExS.total (h : ExS N A l last lastc D S P) (hD : ∀ f, D f) (hS : ∀ f, S f) (hP : ∀ f, AtLv N l f → P f) : ov A N = A := by
  funext f
  cases hA : A f with
  | some m => exact ov_some hA
  | none =>
    rw [ov_none hA]
    cases hn : N f with
    | none => rfl
    | some n =>
      exfalso
      by_cases e1 : n.lv = l
      · by_cases ec : Cr N l n
        · obtain ⟨a, b, q, _⟩ := h.cr1 f n hn e1 ec (hP f ⟨n, hn, e1⟩)
          rw [q] at hA; cases hA
        · rw [h.sink1 f n hn e1 ec (hS f)] at hA; cases hA
      · by_cases e2 : n.lv = l + 1
        · rw [h.low1 f n hn e2 (hD f)] at hA; cases hA
        · rw [h.other f n hn e1 e2] at hA; cases hA
theorem ExS.fits (_hw : Wf N top last) (hbig : lastc ≤ 4611686018427387904) (hwA : Wf A top lastc) : ∀ f m, A f = some m → Fits f ∧ Fits m.lv ∧ Fits m.lo ∧ Fits m.hi := hwA.fitsN hbig

/-- the level of a part, on the way -/
theorem lvl_ov (hw : Wf N top last) (h : ExS N A l last lastc D S P) (hD : ∀ f n, N f = some n → n.lv = l + 1 → D f) (hl1 : l < 8) {x : Int} (hx : Ok N (l + 1) x) : lvl (ov A N) x = l ↔ AtLv N (l + 1) x := by
  constructor
  · intro e
    rcases hx with rfl | rfl | ⟨n, hn, hnl⟩
    · exfalso
      have hA : A 0 = none := by
        cases hm : A 0 with
        | none => rfl
        | some m => have := (h.rg 0 m hm).1; omega
      rw [lvl, ov_none hA, hw.zero] at e
      simp only at e
      omega
    · exfalso
      have hA : A 1 = none := by
        cases hm : A 1 with
        | none => rfl
        | some m => have := (h.rg 1 m hm).1; omega
      rw [lvl, ov_none hA, hw.onee] at e
      simp only at e
      omega
    · by_cases e2 : n.lv = l + 1
      · exact ⟨n, hn, e2⟩
      · exfalso
        rw [lvl, ov_some (h.other x n hn (by omega) e2)] at e
        simp only at e
        omega
  · rintro ⟨n, hn, hl⟩
    rw [lvl, ov_some (h.low1 x n hn hl (hD x n hn hl))]
end
end Go.Proofs.YtmgjegokkbghlaaGreat

namespace Go.Proofs.YtmgjegokkbghlaaGreat
open Go.RowKit Go.Maps Bdd
attribute [local go_sem ↓] Go.wp_at_zero Go.wp_at_succ

def upB (N : Tab) (l : Int) (f : Int) : Bool := true && atB N l f
def loB (N : Tab) (l : Int) (f : Int) : Bool := (true && !atB N l f) && atB N (l + 1) f
theorem upB_some {N : Tab} {l f : Int} {n : Nd} : keep N (upB N l) f = some n ↔ N f = some n ∧ n.lv = l := by
  rw [keep_some]
  constructor
  · rintro ⟨h1, h2⟩
    simp [upB, atB, h2] at h1
    exact ⟨h2, h1⟩
  · rintro ⟨h1, h2⟩
    exact ⟨by simp [upB, atB, h1, h2], h1⟩
theorem loB_some {N : Tab} {l f : Int} {n : Nd} : keep N (loB N l) f = some n ↔ N f = some n ∧ n.lv = l + 1 := by
  rw [keep_some]
  constructor
  · rintro ⟨h1, h2⟩
    simp [loB, atB, h2] at h1
    exact ⟨h2, h1.2⟩
  · rintro ⟨h1, h2⟩
    refine ⟨?_, h1⟩
    simp [loB, atB, h1, h2]
    omega

theorem ownsRow_keepsB {w w' : World} {base : Nat} {e : TypeId} {size n : Nat} {v : Value} {xs : List Value} {S : List Nat} (h : w.ownsRow base e size v n xs) (hk : Keeps S w w') (hS : ∀ g, v.ownBlock = some g → g ∉ S) : w'.ownsRow base e size v n xs := by
  refine ⟨h.1, ?_⟩
  rcases h.2 with h0 | ⟨g, cap, cur, rfl, hb, hg, r⟩
  · exact Or.inl h0
  · refine Or.inr ⟨g, cap, cur, rfl, hb, ?_, r⟩
    rw [hk.block g (Array.getElem?_eq_some_iff.1 hg).1 (hS g rfl)]
    exact hg
theorem idx2_0 (a b : Int) (w : World) : (Instr.index 162 (.agg #[.int .i64 a, .int .i64 b]) (.int .i64 0)).run Tryz.prog w = .ok (.int .i64 a) w := by kernel_rfl
theorem idx2_1 (a b : Int) (w : World) : (Instr.index 162 (.agg #[.int .i64 a, .int .i64 b]) (.int .i64 1)).run Tryz.prog w = .ok (.int .i64 b) w := by kernel_rfl
/-- which cross -/
structure CrIs (N : Tab) (l : Int) (left : Value → Bool) (cs : List Int) : Prop where
  is : ∀ f ∈ cs, ∃ n, N f = some n ∧ n.lv = l ∧ Cr N l n
  all : ∀ f n, N f = some n → n.lv = l → Cr N l n → left (.int .i64 f) = false → f ∈ cs
  dist : cs.Nodup
  gone : ∀ f ∈ cs, left (.int .i64 f) = false
theorem strike_iff (left : Value → Bool) (f g : Int) : strike left (.int .i64 f) (.int .i64 g) = false ↔ left (.int .i64 g) = false ∨ g = f := by
  by_cases e : g = f
  · subst e; simp [strike_same]
  · rw [strike_other _ (by simp [e])]; simp [e]
theorem CrIs.add {N : Tab} {l : Int} {left : Value → Bool} {cs : List Int} (h : CrIs N l left cs) {f : Int} {n : Nd} (hn : N f = some n) (hl : n.lv = l) (hc : Cr N l n) (hf : left (.int .i64 f) = true) : CrIs N l (strike left (.int .i64 f)) (cs ++ [f]) := by
  refine ⟨fun g hg => ?_, fun g m hg h1 h2 h3 => ?_, ?_, fun g hg => ?_⟩
  · rcases List.mem_append.1 hg with hg | hg
    · exact h.is g hg
    · simp at hg; subst hg; exact ⟨n, hn, hl, hc⟩
  · rcases (strike_iff left f g).1 h3 with h3 | h3
    · exact List.mem_append_left _ (h.all g m hg h1 h2 h3)
    · subst h3; simp
  · refine List.nodup_append.2 ⟨h.dist, by simp, fun a ha b hb e => ?_⟩
    simp at hb
    subst hb
    subst e
    have := h.gone a ha
    rw [hf] at this
    cases this
  · refine (strike_iff left f g).2 ?_
    rcases List.mem_append.1 hg with hg | hg
    · exact Or.inl (h.gone g hg)
    · simp at hg; exact Or.inr hg
theorem CrIs.skip {N : Tab} {l : Int} {left : Value → Bool} {cs : List Int} (h : CrIs N l left cs) {f : Int} {n : Nd} (hn : N f = some n) (hc : ¬ Cr N l n) : CrIs N l (strike left (.int .i64 f)) cs := by
  refine ⟨h.is, fun g m hg h1 h2 h3 => ?_, h.dist, fun g hg => (strike_iff left f g).2 (Or.inl (h.gone g hg))⟩
  rcases (strike_iff left f g).1 h3 with h3 | h3
  · exact h.all g m hg h1 h2 h3
  · subst h3; rw [hn] at hg; cases hg; exact absurd h2 hc

set_option maxRecDepth 100000 in
set_option maxHeartbeats 4000000 in
theorem exchange_any {w : World} {t bn bm sz : Nat} {N : Tab} {top last l : Int} (hT : TabAt w t bn bm sz N top last) (hl0 : 0 ≤ l) (hl1 : l + 1 < top) (hsz : sz ≤ 20000) (hlast : last + 50000 ≤ 4611686018427387904) :
    Calls Tryz.prog 123 #[.pointer (some ⟨t, 0, none⟩), .int .i64 l] w fun e w' => ∃ A lastc sz', e = .returned (.tuple #[]) ∧ TabAt w' t bn bm sz' A top lastc ∧ ExS N A l last lastc (fun _ => True) (fun _ => True) (AtLv N l) ∧ lastc ≤ last + 50000 ∧ Keeps [t, bn, bm] w w' := by
  have hw := hT.wf
  have hbig := hT.big
  have htop := hw.tops
  have hl8 : l + 1 < 8 := by omega
  have hml : (1000000 : Nat) < maxLen := by decide
  have e0 : keep N (fun _ => true) = N := by funext f; simp [keep]
  have hn0 : MapIs w Tryz.prog 132 bn sz (namesG (keep N (fun _ => true))) := by rw [e0]; exact hT.names
  have htn : t ≠ bn := hT.names.ne_cell hT.c0
  have htm : t ≠ bm := hT.nodes.ne_cell hT.c0
  have ltt : t < w.heap.size := cell_lt hT.c0
  have ltn := hT.names.lt
  have ltm := hT.nodes.lt
  have hbb := hT.ne
  have HFN : Hid (∀ f n, N f = some n → Fits f ∧ Fits n.lv ∧ Fits n.lo ∧ Fits n.hi) := hw.fitsN hbig
  clear e0
  go_enter Tryz.func123, Tryz.ntmps123
  go_wp2_with fail
  go_step3
  go_wp2_with fail
  refine (take_any hw hbig hT.c0 hn0 (by omega)).mono ?_
  rintro e w1 ⟨ub, un, m1, rfl, hub, hum, hun, hnm1, hm1, hk1⟩
  go_wp2_with fail
  refine (take_any (S0 := fun f => true && !atB N l f) (l := l + 1) hw hbig (hk1.cell hT.c0 (by simp; exact htn)) hnm1 (by omega)).mono ?_
  rintro e w2 ⟨lb, ln, m2, rfl, hlb, hlm, hln, hnm2, hm2, hk2⟩
  have hk12 := hk1.trans hk2
  have hX2 : TabX w2 t bn bm m2 sz (keep N (midB N l)) N last := ⟨hk12.cell hT.c0 (by simp; exact htn), hk12.cell hT.c1 (by simp; exact htn), hk12.cell hT.c2 (by simp; exact htn), (hk12.frozen (p := ⟨t, 2, none⟩) ltt (by simp; exact htn)).trans hT.f2, hnm2, (hT.nodes.keeps hk12 (by simp; exact fun e => hbb e.symm)).congr (fun v _ _ => by rw [ov_start]), hbb, (ExS.start (l := l) hw).uniq, hbig, hw.one⟩
  have lub := hum.lt
  have hs1 := hk1.size
  have hum2 : MapIs w2 Tryz.prog 95 ub un (nodesG (keep N (upB N l))) := hum.keeps hk2 (by simp; omega)
  have hlm2 : MapIs w2 Tryz.prog 95 lb ln (nodesG (keep N (loB N l))) := hlm
  have llb := hlm.lt
  have HX2 : Hid (TabX w2 t bn bm m2 sz (keep N (midB N l)) N last) := hX2
  clear hX2 hnm1 hnm2 hum hlm hn0
  go_wp2_with (first
    | (at_range; refine wpList_rangeIs _ rfl _ 94 rfl 95 132 lawFn Tryz.underlying94 lb ln (nodesG (keep N (loB N l))) rfl hlm2 ?_; intro w0 hrg0 hg0 hs0)
    | fail)
  go_frame
  obtain ⟨lf, hlf⟩ : ∃ lf : Value → Bool, lf = fun x => (nodesG (keep N (loB N l)) x).isSome := ⟨_, rfl⟩
  rw [← hlf] at hrg0
  have HLF : Hid (∀ f n, N f = some n → n.lv = l + 1 → lf (.int .i64 f) = true) := fun f n hn h1 => by rw [hlf]; simp [nodesG, loB_some.2 ⟨hn, h1⟩]
  clear hlf
  have hk02 : Keeps [bn, bm, w2.heap.size] w2 w0 := (Keeps.refl _ _).grown hg0 (by simp)
  have lts2 : t < w2.heap.size ∧ bn < w2.heap.size ∧ bm < w2.heap.size := by have := hk12.size; omega
  have HST : Hid (∀ (left : Value → Bool), (∀ f n, N f = some n → n.lv = l + 1 → left (.int .i64 f) = true) → ExS N (keep N (midB N l)) l last last (fun f => left (.int .i64 f) = false) (fun _ => False) (fun _ => False)) := by
    intro left hl
    refine (ExS.start (l := l) hw).congr (fun f n hn h1 => ?_) (fun _ _ _ _ _ => Iff.rfl) (fun _ _ _ _ _ => Iff.rfl)
    rw [hl f n hn h1]
    simp
  go_loopw [6, 7] (fun _ _ wr => ∃ (left : Value → Bool) (cnt : Nat) (A : Tab) (n1 : Nat), RangeIs wr Tryz.prog 95 lb w2.heap.size ln (nodesG (keep N (loB N l))) left cnt ∧ TabX wr t bn bm n1 sz A N last ∧ Hid (ExS N A l last last (fun f => left (.int .i64 f) = false) (fun _ => False) (fun _ => False)) ∧ n1 + cnt ≤ 2 * sz ∧ Keeps [bn, bm, w2.heap.size] w2 wr)
    (fun _ _ wr => wr.rangeLeft lb w2.heap.size)
  case atStart =>
    refine ⟨_, ln, _, m2, hrg0, HX2.out.keeps (S := [w2.heap.size]) ((Keeps.refl _ _).grown hg0 (by simp)) (by simp; omega) (by simp; omega) (by simp; omega), HST.out lf HLF.out, by omega, hk02⟩
  case round =>
    obtain ⟨left, cnt, A, n1, hrg, hX, hE, hcn, hkr⟩ := hrel
    clear hrg0
    have HLE : Hid (wr.rangeLeft lb w2.heap.size = cnt) := hrg.left_eq
    go_wp2_with (first
      | (at_next; refine wpList_nextIs _ rfl _ rfl 95 .i64 lawFn Tryz.underlying95 nodeV lb w2.heap.size ln _ left cnt ?_ rfl hrg ?_ ?_)
      | fail)
    · intro x v hv
      obtain ⟨f, n, _, _, e⟩ := nodesG_back hv
      exact ⟨n, e⟩
    · intro hc0 hleft
      obtain ⟨wA, rfl⟩ : ∃ wA, wA = wr := ⟨wr, rfl⟩
      have hE1 : ExS N A l last last (fun _ => True) (fun _ => False) (fun _ => False) := hE.out.congr (fun f n hn h1 => by
        have := hleft f (HFN.out f n hn).1.wf
        simp [this]) (fun _ _ _ _ _ => Iff.rfl) (fun _ _ _ _ _ => Iff.rfl)
      have hu3 := hum2.keeps hkr (by simp; omega)
      have HE1 : Hid (ExS N A l last last (fun _ => True) (fun _ => False) (fun _ => False)) := hE1
      clear hE1 hE hrg HLE hleft HST HLF hum2 hlm2 HX2
      have hsr := hkr.size
      obtain ⟨i0, hi, hz0, hz1, hz2⟩ := info_parts info69
      go_wp2_with fail
      go_step3
      go_wp2_with (first
        | (at_range; refine wpList_rangeIs _ rfl _ 94 rfl 95 132 lawFn Tryz.underlying94 ub un (nodesG (keep N (upB N l))) rfl hu3 ?_; intro y0 hry0 hgy0 hsy0)
        | fail)
      go_frame
      obtain ⟨uf, huf⟩ : ∃ uf : Value → Bool, uf = fun x => (nodesG (keep N (upB N l)) x).isSome := ⟨_, rfl⟩
      rw [← huf] at hry0
      have HUF : Hid (∀ f n, N f = some n → n.lv = l → uf (.int .i64 f) = true) := fun f n hn h1 => by rw [huf]; simp [nodesG, upB_some.2 ⟨hn, h1⟩]
      clear huf
      have hSY : y0.heap.size = wA.heap.size + 1 := hsy0
      have HY : Hid (y0.heap.size = wA.heap.size + 1) := hsy0
      have hX0 : TabX y0 t bn bm n1 sz A N last := hX.keeps (S := [wA.heap.size]) ((Keeps.refl _ _).grown hgy0 (by simp)) (by simp; omega) (by simp; omega) (by simp; omega)
      have HXY : Hid (TabX y0 t bn bm n1 sz A N last) := hX0
      clear hSY hsy0 hX0
      go_loopg [8, 9, 10, 12] un (fun k v8 _ _ _ wx => ∃ (left : Value → Bool) (cs : List Int) (A : Tab) (n1 : Nat), RangeIs wx Tryz.prog 95 ub wA.heap.size un (nodesG (keep N (upB N l))) left k ∧ TabX wx t bn bm n1 sz A N last ∧ Hid (ExS N A l last last (fun _ => True) (fun f => left (.int .i64 f) = false) (fun _ => False)) ∧ wx.ownsRow (wA.heap.size + 1) 95 1 v8 cs.length (cs.map (Value.int .i64)) ∧ Hid (CrIs N l left cs) ∧ cs.length + k ≤ un ∧ n1 + k ≤ 3 * sz ∧ Keeps [bn, bm, wA.heap.size] wA wx)
      case atStart =>
        refine ⟨uf, [], A, n1, hry0, HXY.out, HE1.out.congr (fun _ _ _ _ => Iff.rfl) (fun f n hn h1 _ => by rw [HUF.out f n hn h1]; simp) (fun _ _ _ _ _ => Iff.rfl), World.ownsRow_nil _ _ _ _, ⟨(by simp), (fun f n hn h1 _ h2 => absurd ((HUF.out f n hn h1).symm.trans h2) (by simp)), (by simp), (by simp)⟩, by simp, by omega, (Keeps.refl _ _).grown hgy0 (by simp)⟩
      case round =>
        clear hry0 HXY HE1 HUF
        obtain ⟨left, cs, A, n1, hrg, hX, hE, hown, hC, hcs, hn1, hkx⟩ := hrel
        go_wp2_with (first
          | (at_next; refine wpList_nextIs _ rfl _ rfl 95 .i64 lawFn Tryz.underlying95 nodeV ub wA.heap.size un _ left gk ?_ rfl hrg ?_ ?_)
          | fail)
        · intro x v hv
          obtain ⟨f, n, _, _, e⟩ := nodesG_back hv
          exact ⟨n, e⟩
        · intro hc1 hleft2
          as_aux_lemma =>
          have hE1 : ExS N A l last last (fun _ => True) (fun _ => True) (fun _ => False) := hE.out.congr (fun _ _ _ _ => Iff.rfl) (fun f n hn h1 _ => by
            have := hleft2 f (HFN.out f n hn).1.wf
            simp [this]) (fun _ _ _ _ _ => Iff.rfl)
          have hu4 := hu3.keeps hkx (by simp; omega)
          have hall : ∀ f n, N f = some n → n.lv = l → Cr N l n → f ∈ cs := fun f n hn h1 h2 => hC.out.all f n hn h1 h2 (hleft2 f (HFN.out f n hn).1.wf)
          have HE1 : Hid (ExS N A l last last (fun _ => True) (fun _ => True) (fun _ => False)) := hE1
          have HALL : Hid (∀ f n, N f = some n → n.lv = l → Cr N l n → f ∈ cs) := hall
          have hkrx : Keeps [t, bn, bm] w wr := ((((hk12.mono (S' := [bn, bm, w2.heap.size, wA.heap.size]) (by simp)).trans (hkr.mono (by simp))).trans (hkx.mono (by simp)))).strike (fun i hi' hlt => by have := hk12.size; simp at hi' ⊢; omega)
          have hlcs : cs.length ≤ 20000 := by omega
          obtain ⟨a8, c8, hv8, hrow⟩ : ∃ a8 c8, u8 = .slice a8 cs.length c8 ∧ (0 < cs.length → ∃ g, a8 = some ⟨g, 0, none⟩ ∧ wA.heap.size + 1 ≤ g ∧ ∀ j, j < cs.length → wr.cell? ⟨g, j, none⟩ = some (.int .i64 (cs.getD j 0))) := by
            rcases hown.2 with ⟨e1, e2⟩ | ⟨g, cap, cur, e1, e2, _⟩
            · exact ⟨none, 0, by rw [e1, e2], fun h => by omega⟩
            · subst e1
              refine ⟨some ⟨g, 0, none⟩, cap, rfl, fun _ => ⟨g, rfl, e2, fun j hj => ?_⟩⟩
              rw [hown.cellAt j (by omega)]
              simp [List.getD, hj]
          subst hv8
          obtain ⟨nc, hnc⟩ : ∃ nc, nc = cs.length := ⟨_, rfl⟩
          rw [← hnc] at hrow hlcs ⊢
          have HNC : Hid (nc = cs.length) := hnc
          have HROW : Hid (0 < nc → ∃ g, a8 = some ⟨g, 0, none⟩ ∧ wA.heap.size + 1 ≤ g ∧ ∀ j, j < nc → wr.cell? ⟨g, j, none⟩ = some (.int .i64 (cs.getD j 0))) := hrow
          obtain ⟨wB, rfl⟩ : ∃ wB, wB = wr := ⟨wr, rfl⟩
          have hAB := hkx.size
          clear hE1 hE hrg hleft2 hall hu3 hk1 hk2 hgy0 HY hown hrow hnc
          go_wp2_with fail
          go_loopw [14, 75] (fun _ i wx => ∃ (j : Nat) (A : Tab) (lastc : Int) (n1 n2 : Nat), j ≤ nc ∧ i = .int .i64 j ∧ TabX wx t bn bm n1 n2 A N lastc ∧ Hid (ExS N A l last lastc (fun _ => True) (fun _ => True) (fun f => f ∈ cs.take j)) ∧ lastc ≤ last + 2 * j ∧ n1 ≤ 3 * sz + 3 * j ∧ n2 ≤ sz + 2 * j ∧ Keeps [t, bn, bm] wB wx) (fun _ i _ => nc - (intOf i).toNat)
          case atStart => exact ⟨0, A, last, n1, sz, by omega, rfl, hX, HE1.out.congr (fun _ _ _ _ => Iff.rfl) (fun _ _ _ _ _ => Iff.rfl) (fun _ _ _ _ _ => by simp), by omega, by omega, by omega, Keeps.refl _ _⟩
          case round =>
            clear hX HE1
            obtain ⟨j, A, lastc, n1, n2, hj, rfl, hX, hE, hlc, hb1, hb2, hkb⟩ := hrel
            by_cases hlt : j < nc
            · obtain ⟨g, rfl, hgA, hcell⟩ := HROW.out (by omega)
              have hj0 : (0 : Int) ≤ (j : Int) := by omega
              have hj1 : (j : Int) < (nc : Int) := by omega
              have hjc : j < cs.length := by rw [← HNC.out]; exact hlt
              obtain ⟨f, hf⟩ : ∃ f, f = cs.getD j 0 := ⟨_, rfl⟩
              have hfm : f ∈ cs := by rw [hf]; simp [List.getD, hjc]
              obtain ⟨n, hN, hnl, hcr⟩ := hC.out.is f hfm
              have hcj := hkb.cell (hcell j hlt) (by simp; omega)
              rw [← hf] at hcj
              have hnP : ¬ f ∈ cs.take j := by
                intro hin
                have hd := hC.out.dist
                rw [← List.take_append_drop j cs] at hd
                have hfj : f = cs[j] := by rw [hf]; simp [List.getD, hjc]
                have hmem : f ∈ cs.drop j := by rw [hfj, List.drop_eq_getElem_cons hjc]; exact List.mem_cons_self
                exact (List.nodup_append.1 hd).2.2 f hin f hmem rfl
              have hP' : ∀ x, x ∈ cs.take (j + 1) ↔ x ∈ cs.take j ∨ x = f := by
                intro x
                have e : cs[j] = f := by rw [hf]; simp [List.getD, hjc]
                rw [List.take_succ_eq_append_getElem hjc, e]
                simp
              obtain ⟨z0, z1, z2, z3⟩ := HFN.out f n hN
              have okl := hw.lo f n hN
              have okh := hw.hi f n hN
              rw [hnl] at okl okh
              have hu5 := hu4.keeps hkb (by simp; omega)
              have hG : nodesG (keep N (upB N l)) (.int .i64 f) = some (nodeV n) := by simp [nodesG, upB_some.2 ⟨hN, hnl⟩]
              unfold nodeV trip at hG
              have hkeyf := keyFn z0
              have HN : Hid (N f = some n) := hN
              have HNL : Hid (n.lv = l) := hnl
              have HCR : Hid (Cr N l n) := hcr
              have HNP : Hid (¬ f ∈ cs.take j) := hnP
              have HP' : Hid (∀ x, x ∈ cs.take (j + 1) ↔ x ∈ cs.take j ∨ x = f) := hP'
              have hfl : Fits l := by unfold Fits; omega
              clear hN hnl hcr hnP hP' hf hfm hcell
              go_wp2_with (first
                | (at_lookup; refine wpList_look _ rfl _ _ 94 rfl 95 132 lawFn Tryz.underlying94 (zeroNode _) ub un (nodesG (keep N (upB N l))) rfl hu5 (.int .i64 f) _ rfl hkeyf ?_; rw [hG])
                | fail)
              refine (cross_any hX hw hE.out (fun _ => trivial) hbig hl0 (by omega) okl okh (by omega) (by omega) (by omega)).mono ?_
              rintro e w4 ⟨a, b, A4, lc4, m3, m4, rfl, hX4, hE4, ja, jb, fa, fb, hlc4, hm3, hm4, hk4⟩
              have hA0 := hE4.cr0 f n HN.out HNL.out HCR.out HNP.out
              have hfr := hE4.cr_new hw HN.out HNL.out HCR.out HNP.out ja jb
              have hE5 := hE4.cr_put hw HN.out HNL.out HCR.out HNP.out ja jb
              have HA0 : Hid (A4 f = none) := hA0
              have HFR : Hid (∀ g, A4 g ≠ some ⟨l, a, b⟩) := hfr
              have HE5 : Hid (ExS N (upd A4 f ⟨l, a, b⟩) l last lc4 (fun _ => True) (fun _ => True) (fun g => g ∈ cs.take j ∨ g = f)) := hE5
              clear hA0 hfr hE5 ja jb hE4 hG hE
              unfold trip
              go_wp2_with fail
              refine (put_x (m := ⟨l, a, b⟩) hX4 HA0.out HN.out HFR.out z0 hfl fa fb (by omega) (by omega)).mono ?_
              rintro e w5 ⟨rfl, ⟨n1', hn1', hX5⟩, hk5⟩
              go_wp2_with fail
              go_roundw
              case rel =>
                exact ⟨j + 1, _, lc4, n1', m4, by omega, by go_num, hX5, HE5.out.congr (fun _ _ _ _ => Iff.rfl) (fun _ _ _ _ _ => Iff.rfl) (fun g m hg h1 h2 => (HP'.out g).symm), by omega, by omega, by omega, (hkb.trans hk4).trans (hk5.mono (by simp))⟩
              case measure => simp [intOf]; omega
            · have ej : j = nc := by omega
              subst ej
              have hE3 : ExS N A l last lastc (fun _ => True) (fun _ => True) (AtLv N l) := hE.out.congr (fun _ _ _ _ => Iff.rfl) (fun _ _ _ _ _ => Iff.rfl) (fun f n hn h1 h2 => by
                rw [HNC.out, List.take_length]
                exact ⟨fun _ => ⟨n, hn, h1⟩, fun _ => HALL.out f n hn h1 h2⟩)
              have hwA := hE3.wf hw hl0 hl1 (fun _ => trivial) (fun _ => trivial) (fun _ h => h)
              have htot := hE3.total (fun _ => trivial) (fun _ => trivial) (fun _ h => h)
              have hnod : MapIs wr Tryz.prog 95 bm n2 (nodesG A) := by have := hX.nodes; rw [htot] at this; exact this
              have hss := same_size hX.u (hwA.fitsN hX.big) hX.names hnod
              subst hss
              have HTA : Hid (TabAt wr t bn bm n1 A top lastc) := ⟨hwA, hX.c0, hX.c1, hX.c2, hX.f2, hX.names, hnod, hX.ne, hX.big⟩
              have HE3 : Hid (ExS N A l last lastc (fun _ => True) (fun _ => True) (AtLv N l)) := hE3
              clear hE3 hwA htot hnod
              go_wp2_with fail
              go_end0
              exact ⟨A, lastc, n1, rfl, HTA.out, HE3.out, by omega, hkrx.trans hkb⟩
        · intro f n w3 cnt1 hwf hlf hG hrg1 hlt1 hg1 hs1 hen
          as_aux_lemma =>
          obtain ⟨f', n', hfn, e1, e2⟩ := nodesG_back hG
          have e3 : f = f' := by cases e1; rfl
          subst e3
          have e4 := nodeV_inj e2
          subst e4
          obtain ⟨hN, hnl⟩ := upB_some.1 hfn
          have hX3 : TabX w3 t bn bm n1 sz A N last := hX.keeps (S := [wA.heap.size]) ((Keeps.refl _ _).grown hg1 (by simp)) (by simp; omega) (by simp; omega) (by simp; omega)
          have hk3 : Keeps [bn, bm, wA.heap.size] wA w3 := hkx.grown hg1 (by simp)
          have hown3 : w3.ownsRow (wA.heap.size + 1) 95 1 u8 cs.length (cs.map (Value.int .i64)) := ownsRow_keepsB hown ((Keeps.refl [wA.heap.size] wr).grown hg1 (by simp)) (fun g hg => by have := (hown.lt g hg).1; simp; omega)
          obtain ⟨z0, z1, z2, z3⟩ := HFN.out f n hN
          have okl := hw.lo f n hN
          have okh := hw.hi f n hN
          rw [hnl] at okl okh
          have HN : Hid (N f = some n) := hN
          have HNL : Hid (n.lv = l) := hnl
          have HLF2 : Hid (left (.int .i64 f) = true) := hlf
          have hvl : ∀ x, Ok N (l + 1) x → (lvl (ov A N) x = l ↔ AtLv N (l + 1) x) := fun x hx => lvl_ov hw hE.out (fun _ _ _ _ => trivial) (by omega) hx
          have HV1 : Hid (lvl (ov A N) n.lo = l ↔ AtLv N (l + 1) n.lo) := hvl _ okl
          have HV2 : Hid (lvl (ov A N) n.hi = l ↔ AtLv N (l + 1) n.hi) := hvl _ okh
          have hsx := hkx.size
          have hs3 : wA.heap.size + 1 ≤ w3.heap.size := by have := hrg1.lt; omega
          have hk3s := hk3.size
          clear hN hfn e1 e2 hG hnl hs1 hlf hrg hX hvl okl okh hown hkx hsx
          unfold nodeV trip at hen ⊢
          go_wp2_with fail
          obtain ⟨W4, hW4⟩ : ∃ W4, W4 = w3.alloc (Obj.cells #[Value.int IntKind.i64 n.lv, Value.int IntKind.i64 n.lo, Value.int IntKind.i64 n.hi] 132) := ⟨_, rfl⟩
          rw [← hW4]
          have hk4 : Keeps [] w3 W4 := by rw [hW4]; exact (Keeps.refl _ _).alloc _
          have hX4 := hX3.keeps hk4 (by simp) (by simp) (by simp)
          have hown4W := ownsRow_keepsB hown3 hk4 (by simp)
          have b1 : W4.cell? ⟨w3.heap.size, 1, none⟩ = some (.int .i64 n.lo) := by rw [hW4]; simp
          have b2 : W4.cell? ⟨w3.heap.size, 2, none⟩ = some (.int .i64 n.hi) := by rw [hW4]; simp
          have HW4 : Hid (W4 = w3.alloc (Obj.cells #[Value.int IntKind.i64 n.lv, Value.int IntKind.i64 n.lo, Value.int IntKind.i64 n.hi] 132)) := hW4
          have hs4 : w3.heap.size + 1 = W4.heap.size := by rw [hW4]; simp
          clear hW4
          go_loopg [8, 12, 50] 2 (fun g2 s8 _ s50 wy => ∃ j : Int, s8 = u8 ∧ ((j = 0 ∧ g2 = 2) ∨ (j = 1 ∧ g2 = 1 ∧ Hid (¬ AtLv N (l + 1) n.lo)) ∨ (j = 2 ∧ g2 = 0 ∧ Hid (¬ AtLv N (l + 1) n.lo) ∧ Hid (¬ AtLv N (l + 1) n.hi))) ∧ s50 = .int .i64 j ∧ Keeps [] W4 wy)
          case atStart => exact ⟨0, rfl, Or.inl ⟨rfl, rfl⟩, rfl, Keeps.refl _ _⟩
          case round =>
            obtain ⟨j, rfl, hj, rfl, hky⟩ := hrel
            have hXy := hX4.keeps hky (by simp) (by simp) (by simp)
            have hown4 := ownsRow_keepsB hown4W hky (by simp)
            have b1' := hky.cell b1 (by simp)
            have b2' := hky.cell b2 (by simp)
            have hi0 := idx2_0 n.lo n.hi
            have hi1 := idx2_1 n.lo n.hi
            rcases hj with ⟨rfl, rfl⟩ | ⟨rfl, rfl, hATL⟩ | ⟨rfl, rfl, hATL, hATH⟩
            · as_aux_lemma =>
              obtain ⟨lv0, hlv0⟩ : ∃ lv0, lv0 = lvl (ov A N) n.lo := ⟨_, rfl⟩
              have hcall := level_raw hXy.c1 hXy.nodes z2
              rw [← hlv0] at hcall
              have HLV : Hid (lv0 = lvl (ov A N) n.lo) := hlv0
              clear hlv0
              by_cases hat : AtLv N (l + 1) n.lo
              · have hq : lv0 = l := HLV.out.trans (HV1.out.2 hat)
                have hcr : Cr N l n := Or.inl hat
                have hE2 := hE.out.sink_skip HN.out hcr
                have hC2 := hC.out.add HN.out HNL.out hcr HLF2.out
                have HE2 : Hid (ExS N A l last last (fun _ => True) (fun g => left (.int .i64 g) = false ∨ g = f) (fun _ => False)) := hE2
                have HC2 : Hid (CrIs N l (strike left (.int .i64 f)) (cs ++ [f])) := hC2
                clear hE2 hC2 hcr hat
                rw [hq] at hcall
                go_wp2_with (first
                  | (go_at_call 120; refine hcall.mono ?_; rintro e w5 ⟨rfl, hk5⟩; have hown5 := ownsRow_keepsB hown4 hk5 (by simp); have hk45 := hky.trans hk5; have hs5 := hk45.size)
                  | (at_builtin; refine wpList_append_own_at _ rfl _ _ 67 rfl (wA.heap.size + 1) 95 i0 (.int .i64 0) 1 8 Tryz.underlying67 hi hz0 hz1 hz2 rfl (by decide) _ cs.length (cs.map (Value.int .i64)) rfl (hown5.alloc _) ⟨w5.heap.size, 0, none⟩ 1 1 [.int .i64 f] rfl rfl (cell_one_new _ _ _) (ints_oneCell .i64 [f]) (by omega) (by omega) (by simp; omega) ?_; intro v' w6 hown6 hgrow6 hnil6 hloc6)
                  | fail)
                have k36 : Keeps u8.ownBlock.toList w3 w6 := (((hk4.trans hk45).mono (by simp)).alloc _).grown hgrow6 (fun k hk' => Or.inl (Option.mem_toList.2 hk'))
                have nin : ∀ b, b ≤ wA.heap.size → b ∉ u8.ownBlock.toList := fun b hb hin => by have := (hown3.lt b (Option.mem_toList.1 hin)).1; omega
                go_roundg cnt1
                case measure => exact hlt1
                case rel =>
                  refine ⟨_, cs ++ [f], A, n1, hrg1.keeps k36 (nin _ (by omega)) (nin _ (by omega)), hX3.keeps k36 (nin _ (by omega)) (nin _ (by omega)) (nin _ (by omega)), HE2.out.congr (fun _ _ _ _ => Iff.rfl) (fun g m hg h1 _ => (strike_iff left f g).symm) (fun _ _ _ _ _ => Iff.rfl), ?_, HC2.out, by simp; omega, by omega, ?_⟩
                  · rw [List.map_append, List.length_append]; exact hown6
                  · exact ((hk3.mono (S' := wA.heap.size :: bn :: bm :: u8.ownBlock.toList) (by simp)).trans (k36.mono (fun i hi => by simp only [List.mem_cons]; exact Or.inr (Or.inr (Or.inr hi))))).strike (fun i hi' hlt => by
                      simp only [List.mem_cons] at hi'
                      rcases hi' with rfl | rfl | rfl | hin
                      · simp
                      · simp
                      · simp
                      · have := (hown3.lt i (Option.mem_toList.1 hin)).1; omega)
              · have hq : ¬ lv0 = l := fun e => hat (HV1.out.1 (HLV.out.symm.trans e))
                have hq' : (lv0 == l) = false := by simp [hq]
                have HATL : Hid (¬ AtLv N (l + 1) n.lo) := hat
                clear hq hat
                go_wp2_with (first
                  | (go_at_call 120; refine hcall.mono ?_; rintro e w5 ⟨rfl, hk5⟩)
                  | fail)
                go_roundg 1
                case measure => omega
                case rel => exact ⟨1, rfl, Or.inr (Or.inl ⟨rfl, rfl, HATL⟩), rfl, hky.trans hk5⟩
            · as_aux_lemma =>
              obtain ⟨lv0, hlv0⟩ : ∃ lv0, lv0 = lvl (ov A N) n.hi := ⟨_, rfl⟩
              have hcall := level_raw hXy.c1 hXy.nodes z3
              rw [← hlv0] at hcall
              have HLV : Hid (lv0 = lvl (ov A N) n.hi) := hlv0
              clear hlv0
              by_cases hat : AtLv N (l + 1) n.hi
              · have hq : lv0 = l := HLV.out.trans (HV2.out.2 hat)
                have hcr : Cr N l n := Or.inr hat
                have hE2 := hE.out.sink_skip HN.out hcr
                have hC2 := hC.out.add HN.out HNL.out hcr HLF2.out
                have HE2 : Hid (ExS N A l last last (fun _ => True) (fun g => left (.int .i64 g) = false ∨ g = f) (fun _ => False)) := hE2
                have HC2 : Hid (CrIs N l (strike left (.int .i64 f)) (cs ++ [f])) := hC2
                clear hE2 hC2 hcr hat
                rw [hq] at hcall
                go_wp2_with (first
                  | (go_at_call 120; refine hcall.mono ?_; rintro e w5 ⟨rfl, hk5⟩; have hown5 := ownsRow_keepsB hown4 hk5 (by simp); have hk45 := hky.trans hk5; have hs5 := hk45.size)
                  | (at_builtin; refine wpList_append_own_at _ rfl _ _ 67 rfl (wA.heap.size + 1) 95 i0 (.int .i64 0) 1 8 Tryz.underlying67 hi hz0 hz1 hz2 rfl (by decide) _ cs.length (cs.map (Value.int .i64)) rfl (hown5.alloc _) ⟨w5.heap.size, 0, none⟩ 1 1 [.int .i64 f] rfl rfl (cell_one_new _ _ _) (ints_oneCell .i64 [f]) (by omega) (by omega) (by simp; omega) ?_; intro v' w6 hown6 hgrow6 hnil6 hloc6)
                  | fail)
                have k36 : Keeps u8.ownBlock.toList w3 w6 := (((hk4.trans hk45).mono (by simp)).alloc _).grown hgrow6 (fun k hk' => Or.inl (Option.mem_toList.2 hk'))
                have nin : ∀ b, b ≤ wA.heap.size → b ∉ u8.ownBlock.toList := fun b hb hin => by have := (hown3.lt b (Option.mem_toList.1 hin)).1; omega
                go_roundg cnt1
                case measure => exact hlt1
                case rel =>
                  refine ⟨_, cs ++ [f], A, n1, hrg1.keeps k36 (nin _ (by omega)) (nin _ (by omega)), hX3.keeps k36 (nin _ (by omega)) (nin _ (by omega)) (nin _ (by omega)), HE2.out.congr (fun _ _ _ _ => Iff.rfl) (fun g m hg h1 _ => (strike_iff left f g).symm) (fun _ _ _ _ _ => Iff.rfl), ?_, HC2.out, by simp; omega, by omega, ?_⟩
                  · rw [List.map_append, List.length_append]; exact hown6
                  · exact ((hk3.mono (S' := wA.heap.size :: bn :: bm :: u8.ownBlock.toList) (by simp)).trans (k36.mono (fun i hi => by simp only [List.mem_cons]; exact Or.inr (Or.inr (Or.inr hi))))).strike (fun i hi' hlt => by
                      simp only [List.mem_cons] at hi'
                      rcases hi' with rfl | rfl | rfl | hin
                      · simp
                      · simp
                      · simp
                      · have := (hown3.lt i (Option.mem_toList.1 hin)).1; omega)
              · have hq : ¬ lv0 = l := fun e => hat (HV2.out.1 (HLV.out.symm.trans e))
                have hq' : (lv0 == l) = false := by simp [hq]
                have HATH : Hid (¬ AtLv N (l + 1) n.hi) := hat
                clear hq hat
                go_wp2_with (first
                  | (go_at_call 120; refine hcall.mono ?_; rintro e w5 ⟨rfl, hk5⟩)
                  | fail)
                go_roundg 0
                case measure => omega
                case rel => exact ⟨2, rfl, Or.inr (Or.inr ⟨rfl, rfl, hATL, HATH⟩), rfl, hky.trans hk5⟩
            · as_aux_lemma =>
              have hnc : ¬ Cr N l n := fun h => h.elim hATL.out hATH.out
              have hS : ¬ left (.int .i64 f) = false := by rw [HLF2.out]; simp
              have HA0 : Hid (A f = none) := hE.out.sink0 f n HN.out HNL.out hnc hS
              have HFR : Hid (∀ g, A g ≠ some ⟨l + 1, n.lo, n.hi⟩) := hE.out.sink_new hw HN.out HNL.out hS
              have HE2 : Hid (ExS N (upd A f ⟨l + 1, n.lo, n.hi⟩) l last last (fun _ => True) (fun g => left (.int .i64 g) = false ∨ g = f) (fun _ => False)) := hE.out.sink_put hw HN.out HNL.out hnc hS
              have HC2 : Hid (CrIs N l (strike left (.int .i64 f)) cs) := hC.out.skip HN.out hnc
              have hfl : Fits (l + 1) := by unfold Fits; omega
              clear hnc hS
              go_wp2_with fail
              refine (put_x (m := ⟨l + 1, n.lo, n.hi⟩) hXy HA0.out HN.out HFR.out z0 hfl z2 z3 (by omega) (by omega)).mono ?_
              rintro e w5 ⟨rfl, ⟨n1', hn1', hX5⟩, hk5⟩
              go_wp2_with fail
              go_roundg cnt1
              case measure => exact hlt1
              case rel =>
                have k35 : Keeps [bn, bm] w3 w5 := ((hk4.trans hky).mono (by simp)).trans hk5
                exact ⟨_, cs, _, n1', hrg1.keeps k35 (by simp; omega) (by simp; omega), hX5, HE2.out.congr (fun _ _ _ _ => Iff.rfl) (fun g m hg h1 _ => (strike_iff left f g).symm) (fun _ _ _ _ _ => Iff.rfl), ownsRow_keepsB hown4 hk5 (fun g hg => by have := (hown4.lt g hg).1; simp; omega), HC2.out, by omega, by omega, hk3.trans (k35.mono (by simp))⟩
    · intro f n w3 cnt1 hwf hlf hG hrg1 hlt1 hg1 hs1 hen
      obtain ⟨f', n', hfn, e1, e2⟩ := nodesG_back hG
      have e3 : f = f' := by cases e1; rfl
      subst e3
      have e4 := nodeV_inj e2
      subst e4
      obtain ⟨hN, hnl⟩ := loB_some.1 hfn
      have hX3 : TabX w3 t bn bm n1 sz A N last := hX.keeps (S := [w2.heap.size]) ((Keeps.refl _ _).grown hg1 (by simp)) (by simp; omega) (by simp; omega) (by simp; omega)
      have hk3 : Keeps [bn, bm, w2.heap.size] w2 w3 := hkr.grown hg1 (by simp)
      have hD : ¬ left (.int .i64 f) = false := by rw [hlf]; simp
      have hA0 := hE.out.low0 f n hN hnl hD
      have hfr := hE.out.low_new hw hN hnl hD
      have hE' := hE.out.low_put hw hN hnl hD
      obtain ⟨z0, z1, z2, z3⟩ := HFN.out f n hN
      have HA0 : Hid (A f = none) := hA0
      have HN : Hid (N f = some n) := hN
      have HFR : Hid (∀ g, A g ≠ some ⟨l, n.lo, n.hi⟩) := hfr
      have HE' : Hid (ExS N (upd A f ⟨l, n.lo, n.hi⟩) l last last (fun g => left (.int .i64 g) = false ∨ g = f) (fun _ => False) (fun _ => False)) := hE'
      have hfl : Fits l := by unfold Fits; omega
      clear hA0 hN hfr hE' hfn e1 e2 hG hnl hs1 hlf hD hrg hX
      unfold nodeV trip at hen ⊢
      go_wp2_with fail
      refine (put_x (m := ⟨l, n.lo, n.hi⟩) (hX3.keeps ((Keeps.refl [] _).alloc _) (by simp) (by simp) (by simp)) HA0.out HN.out HFR.out z0 hfl z2 z3 (by omega) (by omega)).mono ?_
      rintro e w4 ⟨rfl, ⟨n1', hn1', hX4⟩, hk4⟩
      have kk : Keeps [bn, bm] w3 w4 := ((Keeps.refl _ _).alloc _).trans hk4
      have hrg4 := hrg1.keeps kk (by simp; omega) (by simp; omega)
      go_wp2_with fail
      go_roundw
      case rel =>
        refine ⟨_, cnt1, _, n1', hrg4, hX4, HE'.out.congr (fun g m hg h1 => ?_) (fun _ _ _ _ _ => Iff.rfl) (fun _ _ _ _ _ => Iff.rfl), by omega, hk3.trans (kk.mono (by simp))⟩
        by_cases e : g = f
        · subst e; simp [strike_same]
        · rw [strike_other _ (by simp [e])]; simp [e]
      case measure => rw [hrg4.left_eq, HLE.out]; exact hlt1

end Go.Proofs.YtmgjegokkbghlaaGreat

namespace Go.Proofs.YtmgjegokkbghlaaGreat
open Go.RowKit Go.Maps Bdd
attribute [local go_sem ↓] Go.wp_at_zero Go.wp_at_succ

theorem swk_in {l k top : Int} (hl0 : 0 ≤ l) (hl1 : l + 1 < top) (h0 : 0 ≤ k) (h1 : k < top) : 0 ≤ swk l k ∧ swk l k < top := by
  unfold swk
  split
  · omega
  · split <;> omega
/-- two neighbours of an order exchanged -/
def Ord.swap {L : Nat} (od : Ord L) (l : Int) (hl0 : 0 ≤ l) (hl1 : l + 1 < (L : Int)) : Ord L where
  at_ k := od.at_ (swk l k)
  lv u := swk l (od.lv u)
  r1 k h0 h1 := by
    obtain ⟨a0, a1⟩ := swk_in hl0 hl1 h0 h1
    obtain ⟨b0, b1, b2⟩ := od.r1 _ a0 a1
    exact ⟨b0, b1, by rw [b2, swk_swk]⟩
  r2 u h0 h1 := by
    obtain ⟨b0, b1, b2⟩ := od.r2 u h0 h1
    obtain ⟨a0, a1⟩ := swk_in hl0 hl1 b0 b1
    exact ⟨a0, a1, by rw [swk_swk, b2]⟩
  blk := od.blk
  cap := od.cap

theorem OrdIn.swap {L : Nat} {od : Ord L} {w : World} (h : OrdIn w od) {p : Nat} (h0 : 0 ≤ (p : Int)) (h1 : (p : Int) + 1 < (L : Int)) : OrdIn ((w.setCell ⟨od.blk, p, none⟩ (.int .i64 (od.at_ ((p : Int) + 1)))).setCell ⟨od.blk, p + 1, none⟩ (.int .i64 (od.at_ (p : Int)))) (od.swap p h0 h1) := by
  intro k hk
  refine ⟨?_, by rw [World.frozen?_setCell, World.frozen?_setCell]; exact (h k hk).2⟩
  show _ = some (Value.int .i64 (od.at_ (swk p k)))
  by_cases e1 : k = p + 1
  · subst e1
    have : swk (p : Int) ((p + 1 : Nat) : Int) = (p : Int) := by unfold swk; rw [if_neg (by omega), if_pos (by omega)]
    rw [this]
    refine World.cell?_setCell_same _ _ _ (u := .int .i64 (od.at_ ((p + 1 : Nat) : Int))) ?_
    show (w.setCell _ _).cell? ⟨od.blk, p + 1, none⟩ = _
    rw [World.cell?_setCell_other _ _ _ _ (by first | (simp; done) | (simp; omega))]
    exact (h (p + 1) hk).1
  · have hn1 : (⟨(od.swap p h0 h1).blk, k, none⟩ : Addr) ≠ ⟨od.blk, p + 1, none⟩ := by intro e; cases e; exact e1 rfl
    rw [World.cell?_setCell_other _ _ _ _ (by first | exact hn1 | exact fun e => hn1 e.symm | (simp; omega))]
    by_cases e2 : k = p
    · subst e2
      have : swk (k : Int) (k : Int) = (k : Int) + 1 := by unfold swk; rw [if_pos rfl]
      rw [this]
      exact World.cell?_setCell_same _ _ _ (h k hk).1
    · have : swk (p : Int) (k : Int) = (k : Int) := by unfold swk; rw [if_neg (by omega), if_neg (by omega)]
      rw [this, World.cell?_setCell_other _ _ _ _ (by first | (simp; done) | (simp; omega))]
      exact (h k hk).1

/-- no function is changed -/
theorem FV_swapo {N A : Tab} {L : Nat} {od : Ord L} {l last lastc : Int} (hw : Wf N (L : Int) last) (hl0 : 0 ≤ l) (hl1 : l + 1 < (L : Int)) (h : ExS N A l last lastc (fun _ => True) (fun _ => True) (AtLv N l)) {f : Int} (hf : Ok N 0 f) : FV A (od.swap l hl0 hl1) f = FV N od f := by
  funext a
  show E A f (fun k => a (od.at_ (swk l k))) = E N f (fun k => a (od.at_ k))
  rw [h.E hw hl0 hl1 (fun _ => trivial) (fun _ => trivial) (fun _ h => h) hf]
  simp only [swk_swk]

/-- a store by its table's names, whatever the table's size -/
theorem StAt.exch {w w' : World} {s hb t bn bm sz sz' nh L : Nat} {od : Ord L} {lim given : Int} {N A : Tab} {last lastc : Int} {H : Int → Option Int} {p : Nat} (h : StAt w s hb t bn bm sz nh od lim given N last H) (h0 : 0 ≤ (p : Int)) (h1 : (p : Int) + 1 < (L : Int)) (hk : Keeps [t, bn, bm] w w') (hT : TabAt w' t bn bm sz' A (L : Int) lastc) (hok : ∀ x f, H x = some f → Ok A 0 f) :
    StAt ((w'.setCell ⟨od.blk, p, none⟩ (.int .i64 (od.at_ ((p : Int) + 1)))).setCell ⟨od.blk, p + 1, none⟩ (.int .i64 (od.at_ (p : Int)))) s hb t bn bm sz' nh (od.swap p h0 h1) lim given A lastc H := by
  have g := h.turn hk hT hok
  have hk2 : Keeps [od.blk] w' ((w'.setCell ⟨od.blk, p, none⟩ (.int .i64 (od.at_ ((p : Int) + 1)))).setCell ⟨od.blk, p + 1, none⟩ (.int .i64 (od.at_ (p : Int)))) := ((Keeps.refl _ _).setCell _ (Or.inl (by simp)) _).setCell _ (Or.inl (by simp)) _
  have hs : s ∉ [od.blk] := by simp; exact fun e => g.n4 e.symm
  exact ⟨g.tab.keeps hk2 (by simp; exact fun e => g.n5 e.symm) (by simp; exact fun e => g.on e.symm) (by simp; exact fun e => g.om e.symm), hk2.cell g.c0 hs, hk2.cell g.c1 hs, hk2.cell g.c2 hs, hk2.cell g.c3 hs, hk2.cell g.c4 hs, (hk2.frozen (p := ⟨s, 1, none⟩) (cell_lt g.c1) hs).trans g.f1, g.held.keeps hk2 (by simp; exact fun e => g.oh e.symm), g.ord.swap h0 h1, g.pos, g.n1, g.n2, g.n3, g.n4, g.n5, g.ok, g.hr, g.g0, g.g1⟩


end Go.Proofs.YtmgjegokkbghlaaGreat


namespace Go.Proofs.YtmgjegokkbghlaaGreat
open Go.RowKit Go.Maps Bdd
attribute [local go_sem ↓] Go.wp_at_zero Go.wp_at_succ

set_option maxRecDepth 100000 in
set_option maxHeartbeats 16000000 in
theorem exchangec_any {w : World} {s hb t bn bm L nh sz : Nat} {od : Ord L} {lim given lb : Int} {V : Int → Option Fun} (h : St w s hb t bn bm od nh sz lim given V lb) {p : Nat} (h0 : 0 ≤ (p : Int)) (h1 : (p : Int) + 1 < (L : Int)) (hlb : lb + 50000 ≤ 4611686018427387904) :
    Calls Tryz.prog 122 #[.pointer (some ⟨s, 0, none⟩), .int .i64 (p : Int)] w fun e w' => e = .returned (.tuple #[]) ∧ (∃ sz', St w' s hb t bn bm (od.swap p h0 h1) nh sz' lim given V (lb + 50000)) ∧ Keeps [t, bn, bm, od.blk] w w' := by
  obtain ⟨N, last, H, hst, k1, k2, k3, k4, k5, k6⟩ := h
  have hL8 : L ≤ 8 := by have := hst.tab.wf.tops; omega
  have hpl : pw L ≤ 256 := by
    have : ∀ k, k ≤ 8 → pw k ≤ 256 := by decide
    exact this L (by omega)
  have hszb : sz ≤ 20000 := by
    have : sz ≤ 60 * 255 := Nat.le_trans k5 (Nat.mul_le_mul k6 (by omega))
    omega
  have c4 := hst.c4
  have HV : Hid (∀ x, V x = (H x).map (FV N od)) := k2
  have hp1 : p + 1 < L := by omega
  have ls := hst.lts
  have nso : s ∉ [t, bn, bm] := by simp; exact ⟨hst.n3, hst.tab.names.ne_cell hst.c0, hst.tab.nodes.ne_cell hst.c0⟩
  have noo : od.blk ∉ [t, bn, bm] := by simp; exact ⟨hst.n5, hst.on, hst.om⟩
  clear k2
  go_enter Tryz.func122, Tryz.ntmps122
  go_wp2_with fail
  refine (exchange_any hst.tab h0 h1 hszb (by omega)).mono ?_
  rintro e w1 ⟨A, lastc, sz1, rfl, hT1, hE1, hlc, hk1⟩
  have d2 := hk1.cell hst.c2 nso
  have o0 := hk1.cell (hst.ord p (by omega)).1 noo
  have o1 := hk1.cell (hst.ord (p + 1) hp1).1 noo
  have q0 : w1.frozen? ⟨od.blk, p, none⟩ = false := (hk1.frozen (p := ⟨od.blk, p, none⟩) (ls _ (by simp)) noo).trans (hst.ord p (by omega)).2
  have q1 : w1.frozen? ⟨od.blk, p + 1, none⟩ = false := (hk1.frozen (p := ⟨od.blk, p + 1, none⟩) (ls _ (by simp)) noo).trans (hst.ord (p + 1) hp1).2
  have ks : ∀ (w' : World) (i : Nat) (u : Value), w'.cell? ⟨s, 2, none⟩ = some (.slice (some ⟨od.blk, 0, none⟩) L od.cap) → (w'.setCell ⟨od.blk, i, none⟩ u).cell? ⟨s, 2, none⟩ = some (.slice (some ⟨od.blk, 0, none⟩) L od.cap) := fun w' i u hc => by
    rw [World.cell?_setCell_other _ _ _ _ (by first | (simp; done) | (intro e; cases e; exact hst.n4 rfl) | (intro e; exact hst.n4 (congrArg Addr.block e).symm) | (intro e; exact hst.n4 (congrArg Addr.block e)))]
    exact hc
  have KS : Hid (∀ (w' : World) (i : Nat) (u : Value), w'.cell? ⟨s, 2, none⟩ = some (.slice (some ⟨od.blk, 0, none⟩) L od.cap) → (w'.setCell ⟨od.blk, i, none⟩ u).cell? ⟨s, 2, none⟩ = some (.slice (some ⟨od.blk, 0, none⟩) L od.cap)) := ks
  clear ks
  generalize hx0 : od.at_ ((p : Nat) : Int) = x0 at o0
  generalize hx1 : od.at_ ((p + 1 : Nat) : Int) = x1 at o1
  have HX : Hid (od.at_ ((p : Nat) : Int) = x0 ∧ od.at_ ((p + 1 : Nat) : Int) = x1) := ⟨hx0, hx1⟩
  clear hx0 hx1
  obtain ⟨x, hx⟩ : ∃ x : Int, x = (p : Int) := ⟨_, rfl⟩
  rw [← hx]
  have xn0 : x.toNat = p := by omega
  have xn1 : (x + 1).toNat = p + 1 := by omega
  have xb0 : 0 ≤ x := by omega
  have xb1 : x + 1 < (L : Int) := by omega
  have xb2 : x < (L : Int) := by omega
  have xb3 : 0 ≤ x + 1 := by omega
  have xb4 : (L : Int) ≤ 8 := by omega
  have hwr : IntKind.i64.wrap (x + 1) = x + 1 := IntWalk.i64_in _ ⟨by omega, by omega⟩
  rw [← xn0] at o0 q0
  rw [← xn1] at o1 q1
  have HXN : Hid (x = (p : Int) ∧ x.toNat = p ∧ (x + 1).toNat = p + 1) := ⟨hx, xn0, xn1⟩
  have HH : Hid (0 ≤ (p : Int) ∧ (p : Int) + 1 < (L : Int) ∧ p + 1 < L) := ⟨h0, h1, hp1⟩
  clear hx xn0 xn1
  go_wp2_with fail
  go_region
  go_wp2_with fail
  all_goals
    simp only [HXN.out.2.1, HXN.out.2.2]
    have hx0 := HX.out.1
    have hx1 := HX.out.2
    have hx1' : od.at_ ((p : Int) + 1) = x1 := by rw [← hx1]; congr 1
    rw [← hx0, ← hx1']
    have hok : ∀ y f, H y = some f → Ok A 0 f := fun y f hy => hE1.ok HH.out.1 (fun _ => trivial) (fun _ => trivial) (fun _ h => h) (hst.ok y f hy) (Or.inl HH.out.1)
    have hst2 := (hst.exch HH.out.1 HH.out.2.1 hk1 hT1 hok).keeps ((Keeps.refl _ _).drew)
    refine (forget_any hst2 (by omega)).mono ?_
    rintro e w3 ⟨sz3, K, rfl, hst3, hcl, hK1, hK2, hszb, hk3⟩
    have kk : Keeps [t, bn, bm, od.blk] w w3 := ((((hk1.mono (by simp)).setCell _ (Or.inl (by simp)) _).setCell _ (Or.inl (by simp)) _).drew).trans (hk3.mono (by simp))
    have HST3 : Hid (StAt w3 s hb t bn bm sz3 nh (od.swap p HH.out.1 HH.out.2.1) lim given (keep A K) lastc H) := hst3
    have hV3 : ∀ y, V y = (H y).map (FV (keep A K) (od.swap p HH.out.1 HH.out.2.1)) := by
      intro y
      rw [HV.out y, ← E_trim (od := od.swap p HH.out.1 HH.out.2.1) hst2.tab.wf hst2.tab.wf (Sub.refl A) hcl hst2.ok hK2 y]
      cases hy : H y with
      | none => rfl
      | some f =>
        simp only [Option.map_some]
        rw [FV_swapo hst.tab.wf HH.out.1 HH.out.2.1 hE1 (hst.ok y f hy)]
    have HV3 : Hid (∀ y, V y = (H y).map (FV (keep A K) (od.swap p HH.out.1 HH.out.2.1))) := hV3
    have htr := trim_keep hcl hK1 hK2
    clear hV3 hst3 hst2 hx0 hx1 hx1'
    go_wp2_with fail
    go_end0
    exact ⟨rfl, ⟨sz3, _, _, _, HST3.out, htr, HV3.out, by omega, k4, hszb, k6⟩, kk⟩

end Go.Proofs.YtmgjegokkbghlaaGreat

namespace Go.Proofs.YtmgjegokkbghlaaGreat
open Go.RowKit Go.Maps Bdd
attribute [local go_sem ↓] Go.wp_at_zero Go.wp_at_succ

/-- a variable at a place among the rest -/
def ins (rest : Int → Int) (i p k : Int) : Int := if k < p then rest k else if k = p then i else rest (k - 1)
theorem ins_down (rest : Int → Int) (i p k : Int) : ins rest i (p + 1) (swk p k) = ins rest i p k := by
  unfold ins swk
  by_cases e1 : k = p
  · subst e1
    rw [if_pos rfl, if_neg (by omega), if_pos rfl, if_neg (by omega), if_pos rfl]
  · rw [if_neg e1]
    by_cases e2 : k = p + 1
    · subst e2
      rw [if_pos rfl, if_pos (by omega), if_neg (by omega), if_neg (by omega)]
      congr 1
      omega
    · rw [if_neg e2]
      by_cases e3 : k < p
      · rw [if_pos (by omega), if_pos e3]
      · rw [if_neg (by omega), if_neg e2, if_neg e3, if_neg e1]
theorem ins_up (rest : Int → Int) (i p k : Int) : ins rest i p (swk p k) = ins rest i (p + 1) k := by
  rw [← ins_down rest i p (swk p k), swk_swk]
/-- the order is this one -/
def IsAt {L : Nat} (od : Ord L) (c : Int → Int) : Prop := ∀ k, 0 ≤ k → k < (L : Int) → od.at_ k = c k
def restOf {L : Nat} (od : Ord L) (i : Int) (k : Int) : Int := if k < od.lv i then od.at_ k else od.at_ (k + 1)
theorem isAt_rest {L : Nat} (od : Ord L) {i : Int} (i0 : 0 ≤ i) (i1 : i < (L : Int)) : IsAt od (ins (restOf od i) i (od.lv i)) := by
  intro k k0 k1
  unfold ins restOf
  by_cases e1 : k < od.lv i
  · rw [if_pos e1, if_pos e1]
  · rw [if_neg e1]
    by_cases e2 : k = od.lv i
    · rw [if_pos e2, e2, (od.r2 i i0 i1).2.2]
    · rw [if_neg e2, if_neg (by omega)]
      congr 1
      omega
theorem isAt_lv {L : Nat} {od : Ord L} {rest : Int → Int} {i p : Int} (h : IsAt od (ins rest i p)) (p0 : 0 ≤ p) (p1 : p < (L : Int)) : od.lv i = p := by
  have := h p p0 p1
  have e : ins rest i p p = i := by unfold ins; rw [if_neg (by omega), if_pos rfl]
  rw [e] at this
  rw [← this, (od.r1 p p0 p1).2.2]

theorem St.mono {w : World} {s hb t bn bm L nh sz : Nat} {od : Ord L} {lim given lb lb' : Int} {V : Int → Option Fun} (h : St w s hb t bn bm od nh sz lim given V lb) (hl : lb ≤ lb') : St w s hb t bn bm od nh sz lim given V lb' := by
  obtain ⟨N, last, H, z1, z2, z3, z4, z5, z6, z7⟩ := h
  exact ⟨N, last, H, z1, z2, z3, by omega, z5, z6, z7⟩
theorem placec_any {w : World} {s hb t bn bm L nh sz : Nat} {od : Ord L} {lim given lb : Int} {V : Int → Option Fun} (h : St w s hb t bn bm od nh sz lim given V lb) {i : Int} (h0 : 0 ≤ i) (h1 : i < (L : Int)) :
    Calls Tryz.prog 70 #[.pointer (some ⟨s, 0, none⟩), .int .i64 i] w fun e w' => e = .returned (.int .i64 (od.lv i)) ∧ Keeps [] w w' := by
  obtain ⟨N, last, H, hst, _⟩ := h
  exact place_any hst h0 h1

/-- a store whose order is told -/
def StO (w : World) (s hb t bn bm blk : Nat) (L nh : Nat) (lim given : Int) (V : Int → Option Fun) (lb : Int) (c : Int → Int) (sz : Nat) : Prop :=
  ∃ od : Ord L, St w s hb t bn bm od nh sz lim given V lb ∧ od.blk = blk ∧ IsAt od c
theorem StO.keeps {w w' : World} {s hb t bn bm blk L nh sz : Nat} {lim given lb : Int} {V : Int → Option Fun} {c : Int → Int} (h : StO w s hb t bn bm blk L nh lim given V lb c sz) (hk : Keeps [] w w') : StO w' s hb t bn bm blk L nh lim given V lb c sz := by
  obtain ⟨od, h1, h2, h3⟩ := h
  exact ⟨od, h1.keeps hk, h2, h3⟩
theorem StO.mono {w : World} {s hb t bn bm blk L nh sz : Nat} {lim given lb lb' : Int} {V : Int → Option Fun} {c : Int → Int} (h : StO w s hb t bn bm blk L nh lim given V lb c sz) (hl : lb ≤ lb') : StO w s hb t bn bm blk L nh lim given V lb' c sz := by
  obtain ⟨od, h1, h2, h3⟩ := h
  exact ⟨od, h1.mono hl, h2, h3⟩
theorem StO.size {w w' : World} {s hb t bn bm blk L nh sz sz' : Nat} {s' hb' t' bn' bm' blk' nh' : Nat} {lim given lb lim' given' lb' : Int} {V : Int → Option Fun} {c c' : Int → Int} (h : StO w s hb t bn bm blk L nh lim given V lb c sz) (h' : StO w' s' hb' t' bn' bm' blk' L nh' lim' given' V lb' c' sz') (hc : ∀ k, 0 ≤ k → k < (L : Int) → c k = c' k) : sz = sz' := by
  obtain ⟨od, h1, h2, h3⟩ := h
  obtain ⟨od', h1', h2', h3'⟩ := h'
  exact size_one h1 h1' (fun k k0 k1 => by rw [h3 k k0 k1, h3' k k0 k1, hc k k0 k1])
theorem StO.congr {w : World} {s hb t bn bm blk L nh sz : Nat} {lim given lb : Int} {V : Int → Option Fun} {c c' : Int → Int} (h : StO w s hb t bn bm blk L nh lim given V lb c sz) (hc : ∀ k, 0 ≤ k → k < (L : Int) → c k = c' k) : StO w s hb t bn bm blk L nh lim given V lb c' sz := by
  obtain ⟨od, h1, h2, h3⟩ := h
  exact ⟨od, h1, h2, fun k k0 k1 => (h3 k k0 k1).trans (hc k k0 k1)⟩

theorem exch_o {w : World} {s hb t bn bm blk L nh sz : Nat} {lim given lb : Int} {V : Int → Option Fun} {c : Int → Int} (h : StO w s hb t bn bm blk L nh lim given V lb c sz) {p : Nat} (h1 : (p : Int) + 1 < (L : Int)) (hlb : lb + 50000 ≤ 4611686018427387904) :
    Calls Tryz.prog 122 #[.pointer (some ⟨s, 0, none⟩), .int .i64 (p : Int)] w fun e w' => e = .returned (.tuple #[]) ∧ (∃ sz', StO w' s hb t bn bm blk L nh lim given V (lb + 50000) (fun k => c (swk p k)) sz') ∧ Keeps [t, bn, bm, blk] w w' := by
  obtain ⟨od, hS, rfl, hI⟩ := h
  refine (exchangec_any hS (by omega) h1 hlb).mono ?_
  rintro e w' ⟨rfl, ⟨sz', hS'⟩, hk⟩
  refine ⟨rfl, ⟨sz', _, hS', rfl, fun k k0 k1 => ?_⟩, hk⟩
  obtain ⟨a0, a1⟩ := swk_in (l := (p : Int)) (by omega) h1 k0 k1
  exact hI _ a0 a1
theorem place_o {w : World} {s hb t bn bm blk L nh sz : Nat} {lim given lb : Int} {V : Int → Option Fun} {rest : Int → Int} {i p : Int} (h : StO w s hb t bn bm blk L nh lim given V lb (ins rest i p) sz) (i0 : 0 ≤ i) (i1 : i < (L : Int)) (p0 : 0 ≤ p) (p1 : p < (L : Int)) :
    Calls Tryz.prog 70 #[.pointer (some ⟨s, 0, none⟩), .int .i64 i] w fun e w' => e = .returned (.int .i64 p) ∧ Keeps [] w w' := by
  obtain ⟨od, hS, rfl, hI⟩ := h
  have := placec_any hS i0 i1
  rw [isAt_lv hI p0 p1] at this
  exact this

set_option maxRecDepth 100000 in
set_option maxHeartbeats 1000000 in
theorem move_any {w : World} {s hb t bn bm blk L nh sz : Nat} {lim given lb : Int} {V : Int → Option Fun} {rest : Int → Int} {i : Int} {p tg : Nat} (h : StO w s hb t bn bm blk L nh lim given V lb (ins rest i p) sz) (i0 : 0 ≤ i) (i1 : i < (L : Int)) (p1 : p < L) (t1 : tg < L) (hL8 : L ≤ 8) (hlb : lb + 400000 ≤ 4611686018427387904) :
    Calls Tryz.prog 114 #[.pointer (some ⟨s, 0, none⟩), .int .i64 i, .int .i64 (tg : Int)] w fun e w' => e = .returned (.tuple #[]) ∧ (∃ sz', StO w' s hb t bn bm blk L nh lim given V (lb + 400000) (ins rest i tg) sz') ∧ Keeps [t, bn, bm, blk] w w' := by
  have HS : Hid (StO w s hb t bn bm blk L nh lim given V lb (ins rest i p) sz) := h
  clear h
  go_enter Tryz.func114, Tryz.ntmps114
  go_wp2_with fail
  go_loopg [] p (fun g wx => ∃ (q sz' : Nat), q ≤ p ∧ (tg ≤ q ∨ q = p) ∧ g = q ∧ StO wx s hb t bn bm blk L nh lim given V (lb + 50000 * ((p : Int) - q)) (ins rest i q) sz' ∧ Keeps [t, bn, bm, blk] w wx)
  case atStart => exact ⟨p, sz, Nat.le_refl _, Or.inr rfl, rfl, HS.out.mono (by omega), Keeps.refl _ _⟩
  case round =>
    obtain ⟨q, sz', hq, hqt, hgq, hS, hk⟩ := hrel
    have q0 : (0 : Int) ≤ (q : Int) := by omega
    have q1 : (q : Int) < (L : Int) := by omega
    by_cases hc : tg < q
    · have hc' : (tg : Int) < (q : Int) := by omega
      go_wp2_with fail
      refine (place_o hS i0 i1 q0 q1).mono ?_
      rintro e w2 ⟨rfl, hk2⟩
      have hS2 := hS.keeps hk2
      go_wp2_with fail
      refine (place_o hS2 i0 i1 q0 q1).mono ?_
      rintro e w3 ⟨rfl, hk3⟩
      have hS3 := hS2.keeps hk3
      obtain ⟨r, rfl⟩ : ∃ r, q = r + 1 := ⟨q - 1, by omega⟩
      have er : ((r + 1 : Nat) : Int) - 1 = (r : Int) := by omega
      go_wp2_with fail
      refine (exch_o hS3 (p := r) (by omega) (by omega)).mono ?_
      rintro e w4 ⟨rfl, ⟨sz4, hS4⟩, hk4⟩
      go_wp2_with fail
      go_roundg r
      case measure => omega
      case rel =>
        refine ⟨r, sz4, by omega, Or.inl (by omega), rfl, ?_, (hk.trans ((hk2.trans hk3).mono (by simp))).trans hk4⟩
        have e5 : ((r + 1 : Nat) : Int) = (r : Int) + 1 := by omega
        refine (hS4.congr (fun k k0 k1 => ?_)).mono (by omega)
        rw [e5]
        exact ins_down rest i r k
    · have hc' : (q : Int) ≤ (tg : Int) := by omega
      go_wp2_with fail
      refine (place_o hS i0 i1 q0 q1).mono ?_
      rintro e w2 ⟨rfl, hk2⟩
      have hS2 := hS.keeps hk2
      have hk' := hk.trans (hk2.mono (by simp))
      clear hS hgq
      obtain ⟨wA, rfl⟩ : ∃ wA, wA = w2 := ⟨w2, rfl⟩
      go_wp2_with fail
      go_loopg [] (tg - q) (fun g wx => ∃ (r sz' : Nat), q ≤ r ∧ r ≤ tg ∧ g = tg - r ∧ StO wx s hb t bn bm blk L nh lim given V (lb + 50000 * ((p : Int) - q) + 50000 * ((r : Int) - q)) (ins rest i r) sz' ∧ Keeps [t, bn, bm, blk] w wx)
      case atStart => exact ⟨q, sz', Nat.le_refl _, by omega, rfl, hS2.mono (by omega), hk'⟩
      case round =>
        clear hS2 hk' HS
        obtain ⟨r, sz2, hr1, hr2, hgr, hS, hk⟩ := hrel
        have r0 : (0 : Int) ≤ (r : Int) := by omega
        have r1 : (r : Int) < (L : Int) := by omega
        by_cases hd : r < tg
        · have hd' : (r : Int) < (tg : Int) := by omega
          go_wp2_with fail
          refine (place_o hS i0 i1 r0 r1).mono ?_
          rintro e w2 ⟨rfl, hk2⟩
          have hS2 := hS.keeps hk2
          go_wp2_with fail
          refine (place_o hS2 i0 i1 r0 r1).mono ?_
          rintro e w3 ⟨rfl, hk3⟩
          have hS3 := hS2.keeps hk3
          go_wp2_with fail
          refine (exch_o hS3 (p := r) (by omega) (by omega)).mono ?_
          rintro e w4 ⟨rfl, ⟨sz4, hS4⟩, hk4⟩
          go_wp2_with fail
          go_roundg (tg - (r + 1))
          case measure => omega
          case rel =>
            refine ⟨r + 1, sz4, by omega, by omega, rfl, ?_, (hk.trans ((hk2.trans hk3).mono (by simp))).trans hk4⟩
            have e5 : ((r + 1 : Nat) : Int) = (r : Int) + 1 := by omega
            refine (hS4.congr (fun k k0 k1 => ?_)).mono (by omega)
            rw [e5]
            exact ins_up rest i r k
        · have er : r = tg := by omega
          subst er
          have hd' : ¬ (r : Int) < (r : Int) := by omega
          go_wp2_with fail
          refine (place_o hS i0 i1 r0 r1).mono ?_
          rintro e w2 ⟨rfl, hk2⟩
          have hS2 := hS.keeps hk2
          go_wp2_with fail
          go_end0
          exact ⟨rfl, ⟨sz2, hS2.mono (by omega)⟩, hk.trans (hk2.mono (by simp))⟩

end Go.Proofs.YtmgjegokkbghlaaGreat

namespace Go.Proofs.YtmgjegokkbghlaaGreat
open Go.RowKit Go.Maps Bdd
attribute [local go_sem ↓] Go.wp_at_zero Go.wp_at_succ

/-- an order out of an order, a variable moved -/
theorem StO.rest {w : World} {s hb t bn bm blk L nh sz : Nat} {lim given lb : Int} {V : Int → Option Fun} {c : Int → Int} (h : StO w s hb t bn bm blk L nh lim given V lb c sz) {i : Int} (i0 : 0 ≤ i) (i1 : i < (L : Int)) : ∃ (rest : Int → Int) (p : Nat), p < L ∧ StO w s hb t bn bm blk L nh lim given V lb (ins rest i p) sz ∧ (∀ k, 0 ≤ k → k < (L : Int) → ins rest i p k = c k) := by
  obtain ⟨od, hS, hb, hI⟩ := h
  have h1 := isAt_rest od i0 i1
  obtain ⟨a0, a1, a2⟩ := od.r2 i i0 i1
  refine ⟨restOf od i, (od.lv i).toNat, by omega, ⟨od, hS, hb, ?_⟩, fun k k0 k1 => ?_⟩
  · rw [Int.toNat_of_nonneg a0]; exact h1
  · rw [Int.toNat_of_nonneg a0, ← h1 k k0 k1, hI k k0 k1]

theorem len_o {w : World} {s hb t bn bm blk L nh sz : Nat} {lim given lb : Int} {V : Int → Option Fun} {c : Int → Int} (h : StO w s hb t bn bm blk L nh lim given V lb c sz) : w.cell? ⟨s, 4, none⟩ = some (.pointer (some ⟨t, 0, none⟩)) ∧ ∀ w', Keeps [] w w' → Calls Tryz.prog 95 #[.pointer (some ⟨t, 0, none⟩)] w' fun e w'' => e = .returned (.int .i64 (sz : Int)) ∧ w' = w'' := by
  obtain ⟨od, ⟨N, last, H, hst, _⟩, _⟩ := h
  exact ⟨hst.c4, fun w' hk => (len_any (hst.keeps hk).tab).mono (fun e w'' hh => by obtain ⟨h1, h2⟩ := hh; exact ⟨h1, by first | exact h2 | exact h2.symm⟩)⟩
theorem order_o {w : World} {s hb t bn bm blk L nh sz : Nat} {lim given lb : Int} {V : Int → Option Fun} {c : Int → Int} (h : StO w s hb t bn bm blk L nh lim given V lb c sz) : L ≤ 8 ∧ 0 < L ∧ (∃ cap, w.cell? ⟨s, 2, none⟩ = some (.slice (some ⟨blk, 0, none⟩) L cap)) ∧ w.cell? ⟨s, 0, none⟩ = some (.int .i64 lim) ∧ (∀ k : Nat, k < L → w.cell? ⟨blk, k, none⟩ = some (.int .i64 (c k))) ∧ (∀ x ∈ [s, hb, t, bn, bm, blk], x < w.heap.size) ∧ s ∉ [t, bn, bm, blk] := by
  obtain ⟨od, ⟨N, last, H, hst, _⟩, rfl, hI⟩ := h
  refine ⟨by have := hst.tab.wf.tops; omega, hst.pos, ⟨_, hst.c2⟩, hst.c0, fun k hk => ?_, hst.lts, ?_⟩
  · rw [(hst.ord k hk).1, hI k (by omega) (by omega)]
  · simp; exact ⟨hst.n3, hst.tab.names.ne_cell hst.c0, hst.tab.nodes.ne_cell hst.c0, fun e => hst.n4 e.symm⟩

/-- how many nodes there are with a variable at a place -/
noncomputable def numC (L : Nat) (V : Int → Option Fun) (c : Int → Int) : Nat := open Classical in if h : ∃ sz, Cnts L c V sz then Classical.choose h else 0
theorem numC_eq {L sz : Nat} {V : Int → Option Fun} {c : Int → Int} (h : Cnts L c V sz) : numC L V c = sz := by
  have hx : ∃ sz, Cnts L c V sz := ⟨sz, h⟩
  rw [numC, dif_pos hx]
  exact (Classical.choose_spec hx).one h
theorem StO.cnts {w : World} {s hb t bn bm blk L nh sz : Nat} {lim given lb : Int} {V : Int → Option Fun} {c : Int → Int} (h : StO w s hb t bn bm blk L nh lim given V lb c sz) : Cnts L c V sz := by
  obtain ⟨od, hS, _, hI⟩ := h
  exact hS.cnts.congr hI
noncomputable def numO (L : Nat) (V : Int → Option Fun) (rest : Int → Int) (i : Int) (j : Nat) : Nat := numC L V (ins rest i (j : Int))
theorem StO.num {w : World} {s hb t bn bm blk L nh sz : Nat} {lim given lb : Int} {V : Int → Option Fun} {rest : Int → Int} {i : Int} {j : Nat} (h : StO w s hb t bn bm blk L nh lim given V lb (ins rest i (j : Int)) sz) : sz = numO L V rest i j := (numC_eq h.cnts).symm
/-- the first of the places below j with fewest nodes, if they are fewer than where it stood -/
def bestOf (n : Nat → Nat) (p : Nat) : Nat → Nat
  | 0 => p
  | j + 1 => if n j < n (bestOf n p j) then j else bestOf n p j
theorem bestOf_le (n : Nat → Nat) (p : Nat) : ∀ j, n (bestOf n p j) ≤ n p ∧ (n (bestOf n p j) = n p → bestOf n p j = p)
  | 0 => ⟨Nat.le_refl _, fun _ => rfl⟩
  | j + 1 => by
    obtain ⟨h1, h2⟩ := bestOf_le n p j
    rw [bestOf]
    split
    · exact ⟨by omega, fun e => by omega⟩
    · exact ⟨h1, h2⟩

set_option maxRecDepth 100000 in
set_option maxHeartbeats 1000000 in
theorem settle_any {w : World} {s hb t bn bm blk L nh sz : Nat} {lim given lb : Int} {V : Int → Option Fun} {rest : Int → Int} {i : Int} {p : Nat} (h : StO w s hb t bn bm blk L nh lim given V lb (ins rest i p) sz) (i0 : 0 ≤ i) (i1 : i < (L : Int)) (p1 : p < L) (hlb : lb + 4000000 ≤ 4611686018427387904) :
    Calls Tryz.prog 99 #[.pointer (some ⟨s, 0, none⟩), .int .i64 i] w fun e w' => ∃ (q sz' : Nat) (b : Bool), e = .returned (.bool b) ∧ q < L ∧ StO w' s hb t bn bm blk L nh lim given V (lb + 4000000) (ins rest i q) sz' ∧ (b = true → sz' < sz) ∧ (b = false → sz' = sz) ∧ Keeps [t, bn, bm, blk] w w' ∧ q = bestOf (numO L V rest i) p L ∧ ∃ n : Nat, n = L ∧ (∀ j, j < n → sz' ≤ numO L V rest i j) := by
  obtain ⟨hL8, hL0, ⟨cap, c2⟩, c0, hord, hlts, hns⟩ := order_o h
  obtain ⟨c4, hlen⟩ := len_o h
  have HS : Hid (StO w s hb t bn bm blk L nh lim given V lb (ins rest i p) sz) := h
  have HLEN : Hid (∀ w', Keeps [] w w' → Calls Tryz.prog 95 #[.pointer (some ⟨t, 0, none⟩)] w' fun e w'' => e = .returned (.int .i64 (sz : Int)) ∧ w' = w'') := hlen
  clear h hlen
  go_enter Tryz.func99, Tryz.ntmps99
  go_wp2_with fail
  refine (HLEN.out _ (Keeps.refl _ _)).mono ?_
  rintro e w1 ⟨rfl, rfl⟩
  go_wp2_with fail
  refine (place_o HS.out i0 i1 (by omega) (by omega)).mono ?_
  rintro e w2 ⟨rfl, hk2⟩
  have HS2 : Hid (StO w2 s hb t bn bm blk L nh lim given V lb (ins rest i p) sz) := HS.out.keeps hk2
  have c2' := hk2.cell c2 (by simp)
  clear HLEN
  go_wp2_with fail
  go_loopw [6, 7, 8, 9, 24] (fun vb vf _ _ i' wx => ∃ (j q bs fw szq : Nat) (wz : World) (lbz : Int), j ≤ L ∧ i' = .int .i64 j ∧ vb = .int .i64 bs ∧ vf = .int .i64 fw ∧ q < L ∧ bs < L ∧ fw ≤ sz ∧ Hid (bs = bestOf (numO L V rest i) p j ∧ (∀ u, u < j → fw ≤ numO L V rest i u)) ∧ Hid (StO wx s hb t bn bm blk L nh lim given V (lb + 400000 * j) (ins rest i q) szq) ∧ Hid (StO wz s hb t bn bm blk L nh lim given V lbz (ins rest i bs) fw) ∧ Keeps [t, bn, bm, blk] w wx) (fun _ _ _ _ i' _ => L - (intOf i').toNat)
  case atStart => exact ⟨0, p, p, sz, sz, w2, lb, by omega, rfl, rfl, rfl, p1, p1, Nat.le_refl _, ⟨rfl, fun u hu => absurd hu (by omega)⟩, HS2.out.mono (by omega), HS2.out, hk2.mono (by simp)⟩
  case round =>
    clear HS HS2
    obtain ⟨j, q, bs, fw, szq, wz, lbz, hj, rfl, rfl, rfl, hq, hbs, hfw, hB, hS, hZ, hk⟩ := hrel
    by_cases hlt : j < L
    · have hj0 : (0 : Int) ≤ (j : Int) := by omega
      have hj1 : (j : Int) < (L : Int) := by omega
      go_wp2_with fail
      refine (move_any hS.out i0 i1 hq hlt hL8 (by omega)).mono ?_
      rintro e w3 ⟨rfl, ⟨sz3, hS3⟩, hk3⟩
      obtain ⟨d4, hlen3⟩ := len_o hS3
      have hlen3' := hlen3 w3 (Keeps.refl _ _)
      have HB3 : Hid (sz3 = numO L V rest i j ∧ fw = numO L V rest i bs) := ⟨hS3.num, hZ.out.num⟩
      have HS3 : Hid (StO w3 s hb t bn bm blk L nh lim given V (lb + 400000 * j + 400000) (ins rest i j) sz3) := hS3
      clear hlen3 hS3
      have hkk := hk.trans hk3
      by_cases hn : sz3 < fw
      · have hn' : (sz3 : Int) < (fw : Int) := by omega
        go_wp2_with fail
        refine hlen3'.mono ?_
        rintro e w4 ⟨rfl, rfl⟩
        go_wp2_with fail
        go_roundw
        case rel => exact ⟨j + 1, j, j, sz3, sz3, w3, _, by omega, by go_num, rfl, rfl, hlt, hlt, by omega, ⟨by rw [bestOf, ← hB.out.1, if_pos (by rw [← HB3.out.1, ← HB3.out.2]; exact hn)], fun u hu => if e : u = j then by subst e; exact Nat.le_of_eq HB3.out.1 else by have := hB.out.2 u (by omega); omega⟩, HS3.out.mono (by omega), HS3.out, hkk⟩
        case measure => simp [intOf]; omega
      · have hn' : ¬ (sz3 : Int) < (fw : Int) := by omega
        go_wp2_with fail
        refine hlen3'.mono ?_
        rintro e w4 ⟨rfl, rfl⟩
        go_wp2_with fail
        go_roundw
        case rel => exact ⟨j + 1, j, bs, fw, sz3, wz, lbz, by omega, by go_num, rfl, rfl, hlt, hbs, hfw, ⟨by rw [bestOf, ← hB.out.1, if_neg (by rw [← HB3.out.1, ← HB3.out.2]; exact hn)], fun u hu => if e : u = j then by subst e; have := HB3.out.1; omega else hB.out.2 u (by omega)⟩, HS3.out.mono (by omega), hZ, hkk⟩
        case measure => simp [intOf]; omega
    · have ej : j = L := by omega
      subst ej
      go_wp2_with fail
      refine (move_any hS.out i0 i1 hq hbs hL8 (by omega)).mono ?_
      rintro e w3 ⟨rfl, ⟨sz3, hS3⟩, hk3⟩
      have hsz := hS3.size hZ.out (fun _ _ _ => rfl)
      subst hsz
      have HS3 : Hid (StO w3 s hb t bn bm blk j nh lim given V (lb + 400000 * j + 400000) (ins rest i bs) sz3) := hS3
      clear hS3
      go_wp2_with fail
      go_ret
      refine ⟨bs, sz3, _, rfl, hbs, HS3.out.mono (by omega), fun hb => ?_, fun hb => ?_, hk.trans hk3, hB.out.1, j, rfl, hB.out.2⟩
      · simp at hb; omega
      · simp at hb; omega

/-- where a variable stands in an order -/
noncomputable def plOf (L : Nat) (c : Int → Int) (i : Int) : Nat := open Classical in if h : ∃ p : Nat, p < L ∧ c (p : Int) = i then Classical.choose h else 0
theorem plOf_is {L : Nat} {c : Int → Int} {i : Int} (h : ∃ p : Nat, p < L ∧ c (p : Int) = i) : plOf L c i < L ∧ c (plOf L c i : Int) = i := by
  rw [plOf, dif_pos h]
  exact Classical.choose_spec h
def restC (c : Int → Int) (p : Int) (k : Int) : Int := if k < p then c k else c (k + 1)
theorem ins_restC {c : Int → Int} {p i : Int} (h : c p = i) : ins (restC c p) i p = c := by
  funext k
  unfold ins restC
  by_cases h1 : k < p
  · rw [if_pos h1, if_pos h1]
  · rw [if_neg h1]
    by_cases h2 : k = p
    · subst h2; rw [if_pos rfl, h]
    · rw [if_neg h2, if_neg (by omega)]; congr 1; omega
/-- where a Sift puts a variable -/
noncomputable def bq (L : Nat) (V : Int → Option Fun) (c : Int → Int) (i : Int) : Nat := bestOf (numO L V (restC c (plOf L c i)) i) (plOf L c i) L
inductive SiftTo (L : Nat) (V : Int → Option Fun) : (Int → Int) → (Int → Int) → Prop
  | done (c : Int → Int) (h : ∀ i : Nat, i < L → bq L V c i = plOf L c i) : SiftTo L V c c
  | step (c : Int → Int) (i : Nat) (e : Int → Int) (hi : i < L) (hb : ∀ k : Nat, k < i → bq L V c k = plOf L c k) (hn : bq L V c i ≠ plOf L c i) (h : SiftTo L V (ins (restC c (plOf L c i)) i (bq L V c i)) e) : SiftTo L V c e
/-- two Sifts of one order come to the same -/
theorem SiftTo.one {L : Nat} {V : Int → Option Fun} {c e : Int → Int} (h : SiftTo L V c e) : ∀ {e' : Int → Int}, SiftTo L V c e' → e = e' := by
  induction h with
  | done c hd =>
    intro e' h'
    cases h' with
    | done _ _ => rfl
    | step _ i _ hi hb hn _ => exact absurd (hd i hi) hn
  | step c i e hi hb hn _ ih =>
    intro e' h'
    cases h' with
    | done _ hd => exact absurd (hd i hi) hn
    | step _ i' _ hi' hb' hn' h'' =>
      have : i = i' := by
        rcases Nat.lt_trichotomy i i' with h | h | h
        · exact absurd (hb' i h) hn
        · exact h
        · exact absurd (hb i' h) hn'
      subst this
      exact ih h''
theorem bestOf_min (n : Nat → Nat) (p : Nat) : ∀ j u, u < j → n (bestOf n p j) ≤ n u
  | 0, u, h => absurd h (by omega)
  | j + 1, u, h => by
    rw [bestOf]
    by_cases e : u = j
    · subst e
      split
      · exact Nat.le_refl _
      · omega
    · have := bestOf_min n p j u (by omega)
      split
      · omega
      · exact this
/-- behind a Sift no variable has a better place -/
theorem SiftTo.least {L : Nat} {V : Int → Option Fun} {c e : Int → Int} (h : SiftTo L V c e) {i : Nat} (hi : i < L) (hp : ∃ p : Nat, p < L ∧ e (p : Int) = (i : Int)) {j : Nat} (hj : j < L) : numC L V e ≤ numC L V (ins (restC e (plOf L e i)) i j) := by
  induction h with
  | done c hd =>
    have h1 := bestOf_min (numO L V (restC c (plOf L c i)) i) (plOf L c i) L j hj
    have h2 := hd i hi
    unfold bq at h2
    rw [h2] at h1
    unfold numO at h1
    rw [ins_restC (plOf_is hp).2] at h1
    exact h1
  | step c i' e hi' hb hn _ ih => exact ih hp

theorem StO.at_ {w : World} {s hb t bn bm blk L nh sz : Nat} {lim given lb : Int} {V : Int → Option Fun} {c : Int → Int} (h : StO w s hb t bn bm blk L nh lim given V lb c sz) {i : Int} (i0 : 0 ≤ i) (i1 : i < (L : Int)) : ∃ p : Nat, p < L ∧ c (p : Int) = i := by
  obtain ⟨od, _, _, hI⟩ := h
  obtain ⟨a0, a1, a2⟩ := od.r2 i i0 i1
  exact ⟨(od.lv i).toNat, by omega, by rw [Int.toNat_of_nonneg a0, ← hI _ a0 a1, a2]⟩

set_option maxRecDepth 100000 in
set_option maxHeartbeats 1000000 in
theorem sift_any {w : World} {s hb t bn bm blk L nh sz : Nat} {lim given lb : Int} {V : Int → Option Fun} {c : Int → Int} (h : StO w s hb t bn bm blk L nh lim given V lb c sz) (hszb : sz ≤ 20000) (hlb : lb + 40000000 * 20001 ≤ 4611686018427387904) :
    Calls Tryz.prog 45 #[.pointer (some ⟨s, 0, none⟩)] w fun e w' => ∃ (c' : Int → Int) (sz' : Nat), e = .returned (.tuple #[]) ∧ StO w' s hb t bn bm blk L nh lim given V (lb + 40000000 * 20001) c' sz' ∧ sz' ≤ sz ∧ Keeps [t, bn, bm, blk] w w' ∧ SiftTo L V c c' := by
  obtain ⟨hL8, hL0, ⟨cap, c2⟩, c0, hord, hlts, hns⟩ := order_o h
  have HS : Hid (StO w s hb t bn bm blk L nh lim given V lb c sz) := h
  clear h
  go_enter Tryz.func45, Tryz.ntmps45
  go_wp2_with fail
  go_step3
  go_wp2_with fail
  go_step3
  go_wp2_with fail
  go_loopg [] sz (fun g wx => ∃ (c' : Int → Int) (sz' : Nat), g = sz' ∧ sz' ≤ sz ∧ Hid (StO wx s hb t bn bm blk L nh lim given V (lb + 40000000 * ((sz : Int) - sz')) c' sz') ∧ Keeps [t, bn, bm, blk] w wx ∧ Hid (∀ e, SiftTo L V c' e → SiftTo L V c e))
  case atStart => exact ⟨c, sz, rfl, Nat.le_refl _, HS.out.mono (by omega), Keeps.refl _ _, fun _ h => h⟩
  case round =>
    clear HS
    obtain ⟨c', sz', hg, hsz, hS, hk, hT⟩ := hrel
    have d2 := hk.cell c2 hns
    obtain ⟨wA, rfl⟩ : ∃ wA, wA = wr := ⟨wr, rfl⟩
    go_wp2_with fail
    go_loopg [2, 8] L (fun g2 _ s8 wx => ∃ j : Nat, j + g2 = L ∧ s8 = .int .i64 j ∧ Hid (StO wx s hb t bn bm blk L nh lim given V (lb + 40000000 * ((sz : Int) - sz') + 4000000 * j) c' sz') ∧ Keeps [t, bn, bm, blk] w wx ∧ Hid (∀ k : Nat, k < j → bq L V c' k = plOf L c' k))
    case atStart => exact ⟨0, by omega, rfl, hS.out.mono (by omega), hk, fun k h => absurd h (by omega)⟩
    case round =>
      clear hS hk d2
      obtain ⟨j, hj, rfl, hS, hk, hB⟩ := hrel
      by_cases hlt : j < L
      · have hj0 : (0 : Int) ≤ (j : Int) := by omega
        have hj1 : (j : Int) < (L : Int) := by omega
        have hpl := plOf_is (hS.out.at_ hj0 hj1)
        have HPL : Hid (c' (plOf L c' j : Int) = (j : Int)) := hpl.2
        have hS2 := hS.out
        rw [← ins_restC HPL.out] at hS2
        have hcall := settle_any hS2 hj0 hj1 hpl.1 (by omega)
        have HN : Hid (sz' = numO L V (restC c' (plOf L c' j)) j (plOf L c' j)) := hS2.num
        clear hS hS2 hpl
        go_wp2_with fail
        refine hcall.mono ?_
        rintro e w3 ⟨q, sz3, b, rfl, hq, hS3, hb1, hb2, hk3, hqb, _⟩
        have hn3 := hS3.num
        have HQ : Hid (q = bq L V c' j ∧ sz3 = numO L V (restC c' (plOf L c' j)) j q) := ⟨hqb, hn3⟩
        have HS3 : Hid (StO w3 s hb t bn bm blk L nh lim given V (lb + 40000000 * ((sz : Int) - sz') + 4000000 * j + 4000000) (ins (restC c' (plOf L c' j)) j q) sz3) := hS3
        clear hS3 hqb hn3 hcall
        cases b with
        | true =>
          have hless := hb1 rfl
          clear hb1 hb2
          go_wp2_with fail
          go_roundg sz3
          case measure => omega
          case rel =>
            refine ⟨_, sz3, rfl, by omega, HS3.out.mono (by omega), hk.trans hk3, fun e h => hT.out e (.step c' j e hlt hB.out (fun he => ?_) (by rw [← HQ.out.1]; exact h))⟩
            have h1 := HQ.out.2
            have h2 := HN.out
            rw [HQ.out.1, he] at h1
            omega
        | false =>
          have hsame := hb2 rfl
          subst hsame
          clear hb1 hb2
          go_wp2_with fail
          go_roundg (L - (j + 1))
          case measure => omega
          case rel =>
            have hqp : q = plOf L c' j := by
              have h1 := HQ.out.2
              rw [HQ.out.1] at h1 ⊢
              exact (bestOf_le _ _ _).2 (h1.symm.trans HN.out)
            have hS3 := HS3.out
            rw [hqp, ins_restC HPL.out] at hS3
            exact ⟨j + 1, by omega, by go_num, hS3.mono (by omega), hk.trans hk3, fun k h => if e : k = j then by subst e; rw [← HQ.out.1, hqp] else hB.out k (by omega)⟩
      · have ej : j = L := by omega
        subst ej
        go_wp2_with fail
        (first | rw [Exit.noGoto_normal] | simp only [Exit.noGoto])
        go_end0
        exact ⟨c', sz', rfl, hS.out.mono (by omega), hsz, hk, hT.out c' (.done c' hB.out)⟩

end Go.Proofs.YtmgjegokkbghlaaGreat

namespace Go.Proofs.YtmgjegokkbghlaaGreat
open Go.RowKit Go.Maps Bdd
attribute [local go_sem ↓] Go.wp_at_zero Go.wp_at_succ

/-- a list of numbers that is an order -/
structure IsOrd (L : Nat) (d : Int → Int) : Prop where
  range : ∀ k, 0 ≤ k → k < (L : Int) → 0 ≤ d k ∧ d k < (L : Int)
  inj : ∀ j k, 0 ≤ j → j < (L : Int) → 0 ≤ k → k < (L : Int) → d j = d k → j = k

theorem StO.inj {w : World} {s hb t bn bm blk L nh sz : Nat} {lim given lb : Int} {V : Int → Option Fun} {c : Int → Int} (h : StO w s hb t bn bm blk L nh lim given V lb c sz) : IsOrd L c := by
  obtain ⟨od, _, _, hI⟩ := h
  refine ⟨fun k k0 k1 => ?_, fun j k j0 j1 k0 k1 e => ?_⟩
  · rw [← hI k k0 k1]; obtain ⟨a, b, _⟩ := od.r1 k k0 k1; exact ⟨a, b⟩
  · rw [← hI j j0 j1, ← hI k k0 k1] at e
    have h1 := (od.r1 j j0 j1).2.2
    have h2 := (od.r1 k k0 k1).2.2
    rw [e, h2] at h1
    exact h1.symm

set_option maxRecDepth 100000 in
set_option maxHeartbeats 1000000 in
theorem arrange_any {w : World} {s hb t bn bm blk L nh sz b o cap : Nat} {lim given lb : Int} {V : Int → Option Fun} {c d : Int → Int} (h : StO w s hb t bn bm blk L nh lim given V lb c sz) (hd : IsOrd L d) (hl : NumsIn w b o L d) (hbS : b ∉ [t, bn, bm, blk]) (hlb : lb + 4000000 ≤ 4611686018427387904) :
    Calls Tryz.prog 94 #[.pointer (some ⟨s, 0, none⟩), .slice (some ⟨b, o, none⟩) L cap] w fun e w' => e = .returned (.tuple #[]) ∧ (∃ sz', StO w' s hb t bn bm blk L nh lim given V (lb + 4000000) d sz') ∧ Keeps [t, bn, bm, blk] w w' := by
  obtain ⟨hL8, hL0, _, _, _, _, _⟩ := order_o h
  have HS : Hid (StO w s hb t bn bm blk L nh lim given V lb c sz) := h
  have HD : Hid (IsOrd L d) := hd
  have HL : Hid (NumsIn w b o L d) := hl
  clear h hd hl
  go_enter Tryz.func94, Tryz.ntmps94
  go_wp2_with fail
  go_loopw [8] (fun i' wx => ∃ (j : Nat) (c' : Int → Int) (sz' : Nat), j ≤ L ∧ i' = .int .i64 j ∧ Hid (StO wx s hb t bn bm blk L nh lim given V (lb + 400000 * j) c' sz') ∧ Hid (∀ k, 0 ≤ k → k < (j : Int) → c' k = d k) ∧ Keeps [t, bn, bm, blk] w wx) (fun i' _ => L - (intOf i').toNat)
  case atStart => exact ⟨0, c, sz, by omega, rfl, HS.out.mono (by omega), fun k k0 k1 => by omega, Keeps.refl _ _⟩
  case round =>
    clear HS
    obtain ⟨j, c', sz', hj, rfl, hS, hC, hk⟩ := hrel
    by_cases hlt : j < L
    · have hj0 : (0 : Int) ≤ (j : Int) := by omega
      have hj1 : (j : Int) < (L : Int) := by omega
      have hcj := hk.cell (HL.out j hlt) hbS
      obtain ⟨x0, x1⟩ := HD.out.range j hj0 hj1
      obtain ⟨rest, p, hp, hS2, hrest⟩ := hS.out.rest x0 x1
      have hpj : j ≤ p := by
        apply Classical.byContradiction
        intro hn
        have h1 := hrest p (by omega) (by omega)
        have e : ins rest (d j) p p = d j := by unfold ins; rw [if_neg (by omega), if_pos rfl]
        rw [e, hC.out p (by omega) (by omega)] at h1
        have := HD.out.inj j p hj0 hj1 (by omega) (by omega) h1
        omega
      have HN : Hid (∀ k, 0 ≤ k → k < ((j + 1 : Nat) : Int) → ins rest (d j) j k = d k) := by
        intro k k0 k1
        by_cases e : k = j
        · subst e; unfold ins; rw [if_neg (by omega), if_pos rfl]
        · have h1 := hrest k k0 (by omega)
          rw [hC.out k k0 (by omega)] at h1
          rw [← h1]
          unfold ins
          rw [if_pos (by omega), if_pos (by omega)]
      obtain ⟨x, hx⟩ : ∃ x, x = d j := ⟨_, rfl⟩
      rw [← hx] at hcj hS2 x0 x1 HN
      have hcall := move_any hS2 x0 x1 hp hlt hL8 (by omega)
      clear hS hC hS2 hrest hx
      go_wp2_with fail
      refine hcall.mono ?_
      rintro e w3 ⟨rfl, ⟨sz3, hS3⟩, hk3⟩
      go_wp2_with fail
      go_roundw
      case rel => exact ⟨j + 1, _, sz3, by omega, by go_num, hS3.mono (by omega), HN.out, hk.trans hk3⟩
      case measure => simp [intOf]; omega
    · have ej : j = L := by omega
      subst ej
      go_wp2_with fail
      go_end0
      exact ⟨rfl, ⟨sz', (hS.out.congr hC.out).mono (by omega)⟩, hk⟩

set_option maxRecDepth 100000 in
set_option maxHeartbeats 1000000 in
theorem isOrder_any {w : World} {s hb t bn bm blk L nh sz b o cap : Nat} {lim given lb : Int} {V : Int → Option Fun} {c d : Int → Int} (h : StO w s hb t bn bm blk L nh lim given V lb c sz) (hl : NumsIn w b o L d) :
    Calls Tryz.prog 93 #[.pointer (some ⟨s, 0, none⟩), .slice (some ⟨b, o, none⟩) L cap] w fun e w' => ∃ r : Bool, e = .returned (.bool r) ∧ (r = true ↔ ∀ k, 0 ≤ k → k < (L : Int) → ∃ j : Nat, j < L ∧ d (j : Int) = c k) ∧ Keeps [] w w' := by
  obtain ⟨hL8, hL0, ⟨ocap, c2⟩, _, hord, _, _⟩ := order_o h
  have HL : Hid (NumsIn w b o L d) := hl
  have HO : Hid (∀ k : Nat, k < L → w.cell? ⟨blk, k, none⟩ = some (.int .i64 (c k))) := hord
  clear h hl hord
  go_enter Tryz.func93, Tryz.ntmps93
  go_wp2_with fail
  go_loopw [20] (fun i' wx => ∃ j : Nat, j ≤ L ∧ i' = .int .i64 j ∧ Hid (∀ k : Nat, k < j → ∃ m : Nat, m < L ∧ d (m : Int) = c (k : Int)) ∧ Keeps [] w wx) (fun i' _ => L - (intOf i').toNat)
  case atStart => exact ⟨0, by omega, rfl, fun k hk => by omega, Keeps.refl _ _⟩
  case round =>
    obtain ⟨j, hj, rfl, hA, hk⟩ := hrel
    by_cases hlt : j < L
    · have hj0 : (0 : Int) ≤ (j : Int) := by omega
      have hj1 : (j : Int) < (L : Int) := by omega
      have hcj := hk.cell (HO.out j hlt) (by simp)
      obtain ⟨x, hx⟩ : ∃ x, x = c (j : Int) := ⟨_, rfl⟩
      rw [← hx] at hcj
      have HX : Hid (x = c (j : Int)) := hx
      clear hx
      have hcall := contains_any (cap := cap) (HL.out.keeps hk (by simp)) (by omega) x
      go_wp2_with fail
      refine hcall.mono ?_
      rintro e w2 ⟨r, hr, rfl, hk2⟩
      clear hcall
      cases r with
      | true =>
        have HR : Hid (∃ k : Nat, k < L ∧ d (k : Int) = x) := hr.1 rfl
        clear hr
        go_wp2_with fail
        go_roundw
        case rel =>
          refine ⟨j + 1, by omega, by go_num, fun k hk' => ?_, hk.trans hk2⟩
          by_cases e : k = j
          · subst e; rw [← HX.out]; exact HR.out
          · exact hA.out k (by omega)
        case measure => simp [intOf]; omega
      | false =>
        have HR : Hid (¬ ∃ k : Nat, k < L ∧ d (k : Int) = x) := fun h => absurd (hr.2 h) (by simp)
        clear hr
        go_wp2_with fail
        go_ret
        refine ⟨false, rfl, ⟨(fun h => absurd h (by simp)), (fun h => ?_)⟩, hk.trans hk2⟩
        exact absurd (by rw [HX.out]; exact h j hj0 hj1) HR.out
    · have ej : j = L := by omega
      subst ej
      go_wp2_with fail
      go_ret
      refine ⟨true, rfl, ⟨fun _ k k0 k1 => ?_, fun _ => rfl⟩, hk⟩
      obtain ⟨m, rfl⟩ := Int.eq_ofNat_of_zero_le k0
      exact hA.out m (by omega)

end Go.Proofs.YtmgjegokkbghlaaGreat

namespace Go.Proofs.YtmgjegokkbghlaaGreat
open Go.RowKit Go.Maps Bdd
attribute [local go_sem ↓] Go.wp_at_zero Go.wp_at_succ

def listV (c : Int → Int) (L : Nat) : List Value := (List.range L).map fun k : Nat => .int .i64 (c (k : Int))
theorem infoInt2 : (Tryz.prog.info? 3).map (fun i => (i.zero, i.size, i.bytes)) = some (some (.int .i64 0), 1, 8) := by kernel_rfl

set_option maxRecDepth 100000 in
set_option maxHeartbeats 1000000 in
theorem clone_any {w : World} {b L cap : Nat} {c : Int → Int} (hl : NumsIn w b 0 L c) (hL0 : 0 < L) (hL8 : L ≤ 8) :
    Calls Tryz.prog 100 #[.slice (some ⟨b, 0, none⟩) L cap] w fun e w' => ∃ g cp, e = .returned (.slice (some ⟨g, 0, none⟩) L cp) ∧ w.heap.size ≤ g ∧ g < w'.heap.size ∧ NumsIn w' g 0 L c ∧ Keeps [] w w' := by
  obtain ⟨i0, hi, hz0, hz1, hz2⟩ := info_parts infoInt2
  have hml : 100 < maxLen := by decide
  have hnl : (listV c L).length = L := by simp [listV]
  have hcl : ∀ j u, (listV c L)[j]? = some u → w.cell? ((⟨b, 0, none⟩ : Addr).add j) = some u := by
    intro j u hj
    have hjl : j < L := by have := (List.getElem?_eq_some_iff.1 hj).1; rw [hnl] at this; exact this
    rw [Addr.add_mid, hl j hjl]
    simp [listV, hjl] at hj
    rw [hj]
  have h1c : ∀ u ∈ listV c L, u.oneCell' = true := by
    intro u hu
    obtain ⟨k, _, rfl⟩ := List.mem_map.1 hu
    rfl
  have HNL : Hid ((listV c L).length = L * 1) := by show _ = _; rw [hnl, Nat.mul_one]
  have HCL : Hid (∀ j u, (listV c L)[j]? = some u → w.cell? ((⟨b, 0, none⟩ : Addr).add j) = some u) := hcl
  have hLi : (0 : Int) < (L : Int) := by omega
  clear hnl hcl hl
  have q22 : ∀ (w : World) (a : Option Addr) (n c n' c' : Nat), (binOp .eql 31 (.slice a n c) (.slice none n' c')).run Tryz.prog w = .ok (.bool a.isNone) w := fun w a n c n' c' => Lib.run_eql_slice_nil w _ _ a n c n' c' Tryz.underlying31
  go_enter Tryz.func100, Tryz.ntmps100
  go_wp2_with (first
    | (at_builtin; refine wpList_append_grows _ rfl _ _ 31 rfl 3 i0 (.int .i64 0) 1 8 Tryz.underlying31 hi hz0 hz1 hz2 rfl (by decide) (some ⟨w.heap.size, 0, none⟩) 0 0 [] rfl (by simp) (by simp) (by simp) ⟨b, 0, none⟩ L cap (listV c L) rfl HNL.out (fun j u hj => (((Keeps.refl [] w).alloc _).cell (HCL.out j u hj) (by simp))) h1c (by omega) (by omega) (by omega) ?_; intro v' w2 hown hgrow)
    | fail)
  obtain ⟨g, cp, hv, hg⟩ : ∃ g cp, v' = .slice (some ⟨g, 0, none⟩) L cp ∧ w.heap.size ≤ g := by
    rcases hown.2 with ⟨_, h0⟩ | ⟨g, cp, cur, hv, hb, _⟩
    · omega
    · exact ⟨g, cp, by rw [hv, Nat.zero_add], by simp at hb; omega⟩
  subst hv
  go_ret
  have hown' := hown
  simp only [Nat.zero_add, List.nil_append] at hown'
  refine ⟨g, cp, rfl, hg, (hown.lt g rfl).2, fun k hk => ?_, ((Keeps.refl _ _).alloc _).grown hgrow (by simp)⟩
  rw [Nat.zero_add, hown'.cellAt k (by omega)]
  simp [listV, hk]

theorem order_any {w : World} {s hb t bn bm blk L nh sz : Nat} {lim given lb : Int} {V : Int → Option Fun} {c : Int → Int} (h : StO w s hb t bn bm blk L nh lim given V lb c sz) :
    Calls Tryz.prog 46 #[.pointer (some ⟨s, 0, none⟩)] w fun e w' => ∃ g cp, e = .returned (.slice (some ⟨g, 0, none⟩) L cp) ∧ w.heap.size ≤ g ∧ g < w'.heap.size ∧ NumsIn w' g 0 L c ∧ Keeps [] w w' := by
  obtain ⟨hL8, hL0, ⟨cap, c2⟩, _, hord, _, _⟩ := order_o h
  have hl : NumsIn w blk 0 L c := fun k hk => by rw [Nat.zero_add]; exact hord k hk
  have hcall := clone_any (cap := cap) hl hL0 hL8
  clear hord hl h
  go_enter Tryz.func46, Tryz.ntmps46
  go_wp2_with fail
  refine hcall.mono ?_
  rintro e w1 ⟨g, cp, rfl, hg, hg2, hn, hk⟩
  go_wp2_with fail
  go_ret
  exact ⟨g, cp, rfl, hg, hg2, hn, hk⟩

set_option maxRecDepth 100000 in
set_option maxHeartbeats 1000000 in
theorem reorder_ok {w : World} {s hb t bn bm blk L nh sz b o cap : Nat} {lim given lb : Int} {V : Int → Option Fun} {c d : Int → Int} (h : StO w s hb t bn bm blk L nh lim given V lb c sz) (hd : IsOrd L d) (hsur : ∀ k, 0 ≤ k → k < (L : Int) → ∃ j : Nat, j < L ∧ d (j : Int) = k) (hl : NumsIn w b o L d) (hbS : b ∉ [t, bn, bm, blk]) (hroom : ((nh * (pw L - 1) : Nat) : Int) ≤ lim) (hlb : lb + 4000000 ≤ 4611686018427387904) :
    Calls Tryz.prog 43 #[.pointer (some ⟨s, 0, none⟩), .slice (some ⟨b, o, none⟩) L cap] w fun e w' => e = .returned (.int .i64 0) ∧ (∃ sz', StO w' s hb t bn bm blk L nh lim given V (lb + 4000000) d sz') ∧ Keeps [t, bn, bm, blk] w w' := by
  have hord := h.inj
  have hc1 := isOrder_any (cap := cap) h hl
  have HS : Hid (StO w s hb t bn bm blk L nh lim given V lb c sz) := h
  have HD : Hid (IsOrd L d) := hd
  have HL : Hid (NumsIn w b o L d) := hl
  have HSU : Hid (∀ k, 0 ≤ k → k < (L : Int) → ∃ j : Nat, j < L ∧ d (j : Int) = k) := hsur
  have HO : Hid (IsOrd L c) := hord
  clear h hd hl hsur hord
  go_enter Tryz.func43, Tryz.ntmps43
  go_wp2_with fail
  refine hc1.mono ?_
  rintro e w1 ⟨r, rfl, hr, hk1⟩
  have hrt : r = true := hr.2 (fun k k0 k1 => by obtain ⟨a, b⟩ := HO.out.range k k0 k1; exact HSU.out _ a b)
  subst hrt
  clear hr hc1
  have hS1 := HS.out.keeps hk1
  have hc2 := order_any hS1
  have HS1 : Hid (StO w1 s hb t bn bm blk L nh lim given V lb c sz) := hS1
  clear hS1
  go_wp2_with fail
  refine hc2.mono ?_
  rintro e w2 ⟨g, cp, rfl, hg, hg2, hng, hk2⟩
  have hS2 := HS1.out.keeps hk2
  have hc3 := arrange_any (cap := cap) hS2 HD.out ((HL.out.keeps hk1 (by simp)).keeps hk2 (by simp)) hbS hlb
  clear hc2 hS2 hng
  go_wp2_with fail
  refine hc3.mono ?_
  rintro e w3 ⟨rfl, ⟨sz3, hS3⟩, hk3⟩
  obtain ⟨d4, hlen⟩ := len_o hS3
  obtain ⟨_, _, _, d0, _, _, _⟩ := order_o hS3
  have HLEN : Hid (∀ w', Keeps [] w3 w' → Calls Tryz.prog 95 #[.pointer (some ⟨t, 0, none⟩)] w' fun e w'' => e = .returned (.int .i64 (sz3 : Int)) ∧ w' = w'') := hlen
  have hsz3 : (sz3 : Int) ≤ lim := by
    obtain ⟨od, ⟨N, last, H, hst, k1, k2, k3, k4, k5, k6⟩, _⟩ := hS3
    omega
  have HS3 : Hid (StO w3 s hb t bn bm blk L nh lim given V (lb + 4000000) d sz3) := hS3
  clear hc3 hS3 hlen
  go_wp2_with fail
  go_region_held3 (fun w' => w'.cell? ⟨s, 4, none⟩ = some (.pointer (some ⟨t, 0, none⟩)) ∧ w'.cell? ⟨s, 0, none⟩ = some (.int .i64 lim))
    (first | exact ⟨d4, d0⟩ | assumption)
    (first
      | (go_at_call 95; refine (HLEN.out _ ((Keeps.refl [] w3).drew)).mono ?_; rintro e w4 ⟨rfl, rfl⟩))
  go_wp2_with fail
  go_ret
  exact ⟨rfl, ⟨sz3, HS3.out.keeps ((Keeps.refl _ _).drew)⟩, (((hk1.trans hk2).mono (by simp)).trans hk3).drew⟩

end Go.Proofs.YtmgjegokkbghlaaGreat

namespace Go.Proofs.YtmgjegokkbghlaaGreat
open Go.RowKit Go.Maps Bdd
attribute [local go_sem ↓] Go.wp_at_zero Go.wp_at_succ

set_option maxRecDepth 100000 in
set_option maxHeartbeats 1000000 in
theorem reorder_bad {w : World} {s hb t bn bm blk L nh sz b o cap : Nat} {lim given lb : Int} {V : Int → Option Fun} {c d : Int → Int} (h : StO w s hb t bn bm blk L nh lim given V lb c sz) (hl : NumsIn w b o L d) {v : Int} (v0 : 0 ≤ v) (v1 : v < (L : Int)) (hno : ∀ j : Nat, j < L → d (j : Int) ≠ v) :
    Calls Tryz.prog 43 #[.pointer (some ⟨s, 0, none⟩), .slice (some ⟨b, o, none⟩) L cap] w fun e w' => e = .returned (.int .i64 6) ∧ Keeps [] w w' := by
  have hc1 := isOrder_any (cap := cap) h hl
  have hv : ∃ k, 0 ≤ k ∧ k < (L : Int) ∧ c k = v := by
    obtain ⟨od, _, _, hI⟩ := h
    obtain ⟨a0, a1, a2⟩ := od.r2 v v0 v1
    exact ⟨od.lv v, a0, a1, by rw [← hI _ a0 a1, a2]⟩
  have HN : Hid (∀ j : Nat, j < L → d (j : Int) ≠ v) := hno
  have HV : Hid (∃ k, 0 ≤ k ∧ k < (L : Int) ∧ c k = v) := hv
  clear h hl hno hv
  go_enter Tryz.func43, Tryz.ntmps43
  go_wp2_with fail
  refine hc1.mono ?_
  rintro e w1 ⟨r, rfl, hr, hk1⟩
  have hrt : r = false := by
    cases r with
    | false => rfl
    | true =>
      obtain ⟨k, k0, k1, hk⟩ := HV.out
      obtain ⟨j, hj, e⟩ := hr.1 rfl k k0 k1
      exact absurd (e.trans hk) (HN.out j hj)
  subst hrt
  clear hr hc1
  go_wp2_with fail
  go_ret
  exact ⟨rfl, hk1⟩

end Go.Proofs.YtmgjegokkbghlaaGreat
