/- Two neighbouring levels exchanged: plain mathematics. Ranges over a map of nodes; sizes of the two maps; the walks of take, cross. The walk of take. A table on the way from one order to the next: put, join, level, branches, cross. The walk of cross. Lemmas for the walk of Exchange. -/
import Derived.Test.YtmgjegokkbghlaaOrder
import Derived.Test.YtmgjegokkbghlaaPerm
import Derived.Test.YtmgjegokkbghlaaKeys
import Derived.Deep.MidRow
namespace Go.Proofs.Ytmgjegokkbghlaa
open Go.RowKit Go.Maps Bdd

/-- the one function of a node -/
def JoinOf (A : Tab) (k x y r : Int) : Prop := (x = y ∧ r = x) ∨ (x ≠ y ∧ A r = some ⟨k, x, y⟩)
/-- does a function ask first at this level? -/
def AtLv (N : Tab) (k x : Int) : Prop := ∃ m, N x = some m ∧ m.lv = k
/-- does a node's part ask at the next level? -/
def Cr (N : Tab) (l : Int) (n : Nd) : Prop := AtLv N (l + 1) n.lo ∨ AtLv N (l + 1) n.hi

/-- ON THE WAY: A has what is found by now; D: the lower ones that are done, S: those that sink, P: those that cross. -/
structure ExS (N A : Tab) (l last lastc : Int) (D S P : Int → Prop) : Prop where
  other : ∀ f n, N f = some n → n.lv ≠ l → n.lv ≠ l + 1 → A f = some n
  low1 : ∀ f n, N f = some n → n.lv = l + 1 → D f → A f = some ⟨l, n.lo, n.hi⟩
  low0 : ∀ f n, N f = some n → n.lv = l + 1 → ¬ D f → A f = none
  sink1 : ∀ f n, N f = some n → n.lv = l → ¬ Cr N l n → S f → A f = some ⟨l + 1, n.lo, n.hi⟩
  sink0 : ∀ f n, N f = some n → n.lv = l → ¬ Cr N l n → ¬ S f → A f = none
  cr1 : ∀ f n, N f = some n → n.lv = l → Cr N l n → P f → ∃ a b, A f = some ⟨l, a, b⟩ ∧ JoinOf A (l + 1) (part N n.lo (l + 1) false) (part N n.hi (l + 1) false) a ∧ JoinOf A (l + 1) (part N n.lo (l + 1) true) (part N n.hi (l + 1) true) b
  cr0 : ∀ f n, N f = some n → n.lv = l → Cr N l n → ¬ P f → A f = none
  new : ∀ f m, A f = some m → N f = none → last < f ∧ m.lv = l + 1 ∧ m.lo ≠ m.hi ∧ Ok N (l + 2) m.lo ∧ Ok N (l + 2) m.hi
  rg : ∀ f m, A f = some m → 2 ≤ f ∧ f ≤ lastc
  le : last ≤ lastc
  uniq : ∀ f g m, A f = some m → A g = some m → f = g

section
variable {N A : Tab} {top l last lastc : Int} {D S P : Int → Prop}

theorem ExS.cases (h : ExS N A l last lastc D S P) {g : Int} {m : Nd} (hm : A g = some m) :
    (N g = none ∧ last < g ∧ m.lv = l + 1 ∧ m.lo ≠ m.hi ∧ Ok N (l + 2) m.lo ∧ Ok N (l + 2) m.hi) ∨ ∃ n, N g = some n ∧
      ((n.lv ≠ l ∧ n.lv ≠ l + 1 ∧ m = n) ∨ (n.lv = l + 1 ∧ D g ∧ m = ⟨l, n.lo, n.hi⟩) ∨ (n.lv = l ∧ ¬ Cr N l n ∧ S g ∧ m = ⟨l + 1, n.lo, n.hi⟩) ∨
       (n.lv = l ∧ Cr N l n ∧ P g ∧ ∃ a b, m = ⟨l, a, b⟩ ∧ JoinOf A (l + 1) (part N n.lo (l + 1) false) (part N n.hi (l + 1) false) a ∧ JoinOf A (l + 1) (part N n.lo (l + 1) true) (part N n.hi (l + 1) true) b)) := by
  cases hn : N g with
  | none =>
    exact Or.inl ⟨rfl, h.new g m hm hn⟩
  | some n =>
    refine Or.inr ⟨n, rfl, ?_⟩
    by_cases e1 : n.lv = l
    · by_cases ec : Cr N l n
      · by_cases ep : P g
        · obtain ⟨a, b, h1, h2, h3⟩ := h.cr1 g n hn e1 ec ep
          rw [h1] at hm
          cases hm
          exact Or.inr (Or.inr (Or.inr ⟨e1, ec, ep, a, b, rfl, h2, h3⟩))
        · rw [h.cr0 g n hn e1 ec ep] at hm; cases hm
      · by_cases es : S g
        · rw [h.sink1 g n hn e1 ec es] at hm; cases hm
          exact Or.inr (Or.inr (Or.inl ⟨e1, ec, es, rfl⟩))
        · rw [h.sink0 g n hn e1 ec es] at hm; cases hm
    · by_cases e2 : n.lv = l + 1
      · by_cases ed : D g
        · rw [h.low1 g n hn e2 ed] at hm; cases hm
          exact Or.inr (Or.inl ⟨e2, ed, rfl⟩)
        · rw [h.low0 g n hn e2 ed] at hm; cases hm
      · rw [h.other g n hn e1 e2] at hm; cases hm
        exact Or.inl ⟨e1, e2, rfl⟩

theorem ok_drop (_hw : Wf N top last) {k x : Int} (hx : Ok N k x) (hne : ¬ AtLv N k x) : Ok N (k + 1) x := by
  rcases hx with h | h | ⟨n, hn, hl⟩
  · exact Or.inl h
  · exact Or.inr (Or.inl h)
  · refine Or.inr (Or.inr ⟨n, hn, ?_⟩)
    have : n.lv ≠ k := fun e => hne ⟨n, hn, e⟩
    omega
theorem part_ok2 (hw : Wf N top last) {k x : Int} (hx : Ok N k x) (b : Bool) : Ok N (k + 1) (part N x k b) := by
  by_cases e : AtLv N k x
  · obtain ⟨m, hm, hl⟩ := e
    have h1 := hw.lo x m hm
    have h2 := hw.hi x m hm
    rw [hl] at h1 h2
    unfold part
    rw [hm]
    simp only [hl, if_true]
    cases b
    · exact h1
    · exact h2
  · have h1 := ok_drop hw hx e
    have : part N x k b = x := by
      unfold part
      split
      · rename_i n hn
        rw [if_neg (fun e' => e ⟨n, hn, e'⟩)]
      · rfl
    rw [this]
    exact h1
theorem part_id {k x : Int} {b : Bool} (e : ¬ AtLv N k x) : part N x k b = x := by
  unfold part
  split
  · rename_i n hn
    rw [if_neg (fun e' => e ⟨n, hn, e'⟩)]
  · rfl
theorem part_at {k x : Int} {m : Nd} {b : Bool} (hm : N x = some m) (hl : m.lv = k) : part N x k b = if b then m.hi else m.lo := by
  unfold part
  rw [hm]
  simp only [hl, if_true]
/-- two parts tell the function -/
theorem part_inj (hw : Wf N top last) {k x y : Int} (h0 : part N x k false = part N y k false) (h1 : part N x k true = part N y k true) : x = y := by
  by_cases ex : AtLv N k x
  · obtain ⟨m, hm, hl⟩ := ex
    have hne := hw.ne x m hm
    rw [part_at hm hl] at h0 h1
    simp only [Bool.false_eq_true, if_false, if_true] at h0 h1
    by_cases ey : AtLv N k y
    · obtain ⟨m', hm', hl'⟩ := ey
      rw [part_at hm' hl'] at h0 h1
      simp only [Bool.false_eq_true, if_false, if_true] at h0 h1
      have : m = m' := by cases m; cases m'; simp_all
      subst this
      exact hw.uniq x y m hm hm'
    · rw [part_id ey] at h0 h1
      exact absurd (h0.trans h1.symm) hne
  · rw [part_id ex] at h0 h1
    by_cases ey : AtLv N k y
    · obtain ⟨m', hm', hl'⟩ := ey
      have hne := hw.ne y m' hm'
      rw [part_at hm' hl'] at h0 h1
      simp only [Bool.false_eq_true, if_false, if_true] at h0 h1
      exact absurd (h0.symm.trans h1) hne
    · rw [part_id ey] at h0
      exact h0

/-- what is found at the level below is none of what lies deeper -/
theorem ExS.deep (_hw : Wf N top last) (h : ExS N A l last lastc D S P) {x r : Int} {m : Nd} (hx : Ok N (l + 2) x) (hm : A r = some m) (hl : m.lv = l + 1 ∨ m.lv = l) : r ≠ x := by
  rintro rfl
  rcases hx with rfl | rfl | ⟨n, hn, hn2⟩
  · have := (h.rg 0 m hm).1; omega
  · have := (h.rg 1 m hm).1; omega
  · rw [h.other r n hn (by omega) (by omega)] at hm
    cases hm
    omega
/-- join tells its parts -/
theorem ExS.join_inj (hw : Wf N top last) (h : ExS N A l last lastc D S P) {x y x' y' r : Int} (hx : Ok N (l + 2) x) (hx' : Ok N (l + 2) x') (h1 : JoinOf A (l + 1) x y r) (h2 : JoinOf A (l + 1) x' y' r) : x = x' ∧ y = y' := by
  rcases h1 with ⟨e1, e2⟩ | ⟨e1, e2⟩ <;> rcases h2 with ⟨e3, e4⟩ | ⟨e3, e4⟩
  · exact ⟨e2.symm.trans e4, by rw [← e1, ← e3]; exact e2.symm.trans e4⟩
  · exact absurd e2 (h.deep hw hx e4 (Or.inl rfl))
  · exact absurd e4 (h.deep hw hx' e2 (Or.inl rfl))
  · rw [e2] at e4
    cases e4
    exact ⟨rfl, rfl⟩
theorem JoinOf.mono {A A' : Tab} {k x y r : Int} (h : JoinOf A k x y r) (hs : Sub A A') : JoinOf A' k x y r := by
  rcases h with h | ⟨h1, h2⟩
  · exact Or.inl h
  · exact Or.inr ⟨h1, hs _ _ h2⟩

theorem inj_upd {f : Int} {m : Nd} (h : ∀ f g m, A f = some m → A g = some m → f = g) (hfr : ∀ g, A g ≠ some m) : ∀ f' g' m', upd A f m f' = some m' → upd A f m g' = some m' → f' = g' := by
  intro f' g' m' h1 h2
  by_cases e1 : f' = f <;> by_cases e2 : g' = f
  · rw [e1, e2]
  · rw [e1, upd_same] at h1; rw [upd_other _ e2] at h2; cases h1; exact absurd h2 (hfr g')
  · rw [e2, upd_same] at h2; rw [upd_other _ e1] at h1; cases h2; exact absurd h1 (hfr f')
  · rw [upd_other _ e1] at h1; rw [upd_other _ e2] at h2; exact h f' g' m' h1 h2
theorem sub_new {f : Int} {m : Nd} (hf : A f = none) : Sub A (upd A f m) := by
  intro g n hg
  rw [upd_other _ (fun e => by rw [e, hf] at hg; cases hg)]; exact hg

/-- the lower level comes up -/
theorem ExS.low_new (hw : Wf N top last) (h : ExS N A l last last D S (fun _ => False)) {f : Int} {n : Nd} (hn : N f = some n) (hl : n.lv = l + 1) (hD : ¬ D f) : ∀ g, A g ≠ some ⟨l, n.lo, n.hi⟩ := by
  intro g hg
  rcases h.cases hg with ⟨_, h1, _⟩ | ⟨n', hn', h1 | h1 | h1 | h1⟩
  · have := (h.rg g _ hg).2; omega
  · obtain ⟨q1, q2, q3⟩ := h1
    rw [← q3] at q1
    exact q1 rfl
  · obtain ⟨q1, q2, q3⟩ := h1
    have : n = n' := by cases n; cases n'; simp_all
    subst this
    have := hw.uniq f g n hn hn'
    rw [this] at hD
    exact hD q2
  · obtain ⟨q1, q2, q3, q4⟩ := h1
    simp at q4
    omega
  · exact h1.2.2.1
theorem ExS.low_put (hw : Wf N top last) (h : ExS N A l last last D S (fun _ => False)) {f : Int} {n : Nd} (hn : N f = some n) (hl : n.lv = l + 1) (hD : ¬ D f) : ExS N (upd A f ⟨l, n.lo, n.hi⟩) l last last (fun g => D g ∨ g = f) S (fun _ => False) := by
  have hfr := h.low_new hw hn hl hD
  have hf0 := h.low0 f n hn hl hD
  have oth : ∀ g, g ≠ f → upd A f ⟨l, n.lo, n.hi⟩ g = A g := fun g hg => upd_other _ hg
  have dif : ∀ g m, N g = some m → m.lv ≠ l + 1 → g ≠ f := fun g m hg hm e => by rw [e, hn] at hg; cases hg; exact hm hl
  refine ⟨fun g m hg h1 h2 => by rw [oth g (dif g m hg h2)]; exact h.other g m hg h1 h2, fun g m hg h1 h2 => ?_, fun g m hg h1 h2 => ?_, fun g m hg h1 => by rw [oth g (dif g m hg (by omega))]; exact h.sink1 g m hg h1, fun g m hg h1 => by rw [oth g (dif g m hg (by omega))]; exact h.sink0 g m hg h1, fun g m hg h1 h2 h3 => h3.elim, fun g m hg h1 => by rw [oth g (dif g m hg (by omega))]; exact h.cr0 g m hg h1, fun g m hg h1 => ?_, fun g m hg => ?_, h.le, inj_upd h.uniq hfr⟩
  · by_cases e : g = f
    · subst e; rw [hn] at hg; cases hg; exact upd_same _ _ _
    · rw [oth g e]; exact h.low1 g m hg h1 (h2.resolve_right e)
  · have e : g ≠ f := fun e => h2 (Or.inr e)
    rw [oth g e]; exact h.low0 g m hg h1 (fun q => h2 (Or.inl q))
  · have e : g ≠ f := fun e => by rw [e, hn] at h1; cases h1
    rw [oth g e] at hg; exact h.new g m hg h1
  · by_cases e : g = f
    · subst e; exact hw.range g n hn
    · rw [oth g e] at hg; exact h.rg g m hg

/-- a node of the upper level sinks -/
theorem ExS.sink_new (hw : Wf N top last) (h : ExS N A l last last D S (fun _ => False)) {f : Int} {n : Nd} (hn : N f = some n) (hl : n.lv = l) (hS : ¬ S f) : ∀ g, A g ≠ some ⟨l + 1, n.lo, n.hi⟩ := by
  intro g hg
  rcases h.cases hg with ⟨_, h1, _⟩ | ⟨n', hn', h1 | h1 | h1 | h1⟩
  · have := (h.rg g _ hg).2; omega
  · obtain ⟨q1, q2, q3⟩ := h1
    rw [← q3] at q2
    exact q2 rfl
  · obtain ⟨q1, q2, q3⟩ := h1
    simp at q3
    omega
  · obtain ⟨q1, q2, q3, q4⟩ := h1
    have : n = n' := by cases n; cases n'; simp_all
    subst this
    have := hw.uniq f g n hn hn'
    rw [this] at hS
    exact hS q3
  · exact h1.2.2.1
theorem ExS.sink_put (hw : Wf N top last) (h : ExS N A l last last D S (fun _ => False)) {f : Int} {n : Nd} (hn : N f = some n) (hl : n.lv = l) (hc : ¬ Cr N l n) (hS : ¬ S f) : ExS N (upd A f ⟨l + 1, n.lo, n.hi⟩) l last last D (fun g => S g ∨ g = f) (fun _ => False) := by
  have hfr := h.sink_new hw hn hl hS
  have hf0 := h.sink0 f n hn hl hc hS
  have oth : ∀ g, g ≠ f → upd A f ⟨l + 1, n.lo, n.hi⟩ g = A g := fun g hg => upd_other _ hg
  have dif : ∀ g m, N g = some m → m.lv ≠ l → g ≠ f := fun g m hg hm e => by rw [e, hn] at hg; cases hg; exact hm hl
  refine ⟨fun g m hg h1 h2 => by rw [oth g (dif g m hg h1)]; exact h.other g m hg h1 h2, fun g m hg h1 => by rw [oth g (dif g m hg (by omega))]; exact h.low1 g m hg h1, fun g m hg h1 => by rw [oth g (dif g m hg (by omega))]; exact h.low0 g m hg h1, fun g m hg h1 h2 h3 => ?_, fun g m hg h1 h2 h3 => ?_, fun g m hg h1 h2 h3 => h3.elim, fun g m hg h1 h2 h3 => ?_, fun g m hg h1 => ?_, fun g m hg => ?_, h.le, inj_upd h.uniq hfr⟩
  · by_cases e : g = f
    · subst e; rw [hn] at hg; cases hg; exact upd_same _ _ _
    · rw [oth g e]; exact h.sink1 g m hg h1 h2 (h3.resolve_right e)
  · have e : g ≠ f := fun e => h3 (Or.inr e)
    rw [oth g e]; exact h.sink0 g m hg h1 h2 (fun q => h3 (Or.inl q))
  · have e : g ≠ f := fun e => by subst e; rw [hn] at hg; cases hg; exact hc h2
    rw [oth g e]; exact h.cr0 g m hg h1 h2 h3
  · have e : g ≠ f := fun e => by rw [e, hn] at h1; cases h1
    rw [oth g e] at hg; exact h.new g m hg h1
  · by_cases e : g = f
    · subst e; exact hw.range g n hn
    · rw [oth g e] at hg; exact h.rg g m hg
/-- a node that crosses is passed by at first -/
theorem ExS.sink_skip (h : ExS N A l last last D S (fun _ => False)) {f : Int} {n : Nd} (hn : N f = some n) (hc : Cr N l n) : ExS N A l last last D (fun g => S g ∨ g = f) (fun _ => False) := by
  refine ⟨h.other, h.low1, h.low0, fun g m hg h1 h2 h3 => ?_, fun g m hg h1 h2 h3 => h.sink0 g m hg h1 h2 (fun q => h3 (Or.inl q)), fun g m hg h1 h2 h3 => h3.elim, h.cr0, h.new, h.rg, h.le, h.uniq⟩
  refine h.sink1 g m hg h1 h2 (h3.resolve_right (fun e => ?_))
  subst e; rw [hn] at hg; cases hg; exact h2 hc

/-- a new node of the level below -/
theorem ExS.new_put (hw : Wf N top last) (h : ExS N A l last lastc D S P) {x y : Int} (hx : Ok N (l + 2) x) (hy : Ok N (l + 2) y) (hne : x ≠ y) (hno : ∀ g, A g ≠ some ⟨l + 1, x, y⟩) : ExS N (upd A (lastc + 1) ⟨l + 1, x, y⟩) l last (lastc + 1) D S P := by
  have hA : A (lastc + 1) = none := by
    cases hm : A (lastc + 1) with
    | none => rfl
    | some m => have := (h.rg _ m hm).2; omega
  have hNn : N (lastc + 1) = none := by
    cases hm : N (lastc + 1) with
    | none => rfl
    | some m => have := (hw.range _ m hm).2; have := h.le; omega
  have dif : ∀ g m, N g = some m → g ≠ lastc + 1 := fun g m hg e => by rw [e, hNn] at hg; cases hg
  have hs := sub_new (m := ⟨l + 1, x, y⟩) hA
  have oth : ∀ g, g ≠ lastc + 1 → upd A (lastc + 1) ⟨l + 1, x, y⟩ g = A g := fun g hg => upd_other _ hg
  have hone := hw.one
  refine ⟨fun g m hg h1 h2 => hs _ _ (h.other g m hg h1 h2), fun g m hg h1 h2 => hs _ _ (h.low1 g m hg h1 h2), fun g m hg h1 h2 => by rw [oth g (dif g m hg)]; exact h.low0 g m hg h1 h2, fun g m hg h1 h2 h3 => hs _ _ (h.sink1 g m hg h1 h2 h3), fun g m hg h1 h2 h3 => by rw [oth g (dif g m hg)]; exact h.sink0 g m hg h1 h2 h3, fun g m hg h1 h2 h3 => ?_, fun g m hg h1 h2 h3 => by rw [oth g (dif g m hg)]; exact h.cr0 g m hg h1 h2 h3, fun g m hg h1 => ?_, fun g m hg => ?_, by have := h.le; omega, inj_upd h.uniq hno⟩
  · obtain ⟨a, b, q1, q2, q3⟩ := h.cr1 g m hg h1 h2 h3
    exact ⟨a, b, hs _ _ q1, q2.mono hs, q3.mono hs⟩
  · by_cases e : g = lastc + 1
    · subst e; rw [upd_same] at hg; cases hg; exact ⟨by have := h.le; omega, rfl, hne, hx, hy⟩
    · rw [oth g e] at hg; exact h.new g m hg h1
  · by_cases e : g = lastc + 1
    · have := h.le; omega
    · rw [oth g e] at hg; have := h.rg g m hg; omega

/-- a node crosses -/
theorem ExS.cr_new (hw : Wf N top last) (h : ExS N A l last lastc D S P) {f : Int} {n : Nd} (hn : N f = some n) (hl : n.lv = l) (hc : Cr N l n) (hP : ¬ P f) {a b : Int}
    (ja : JoinOf A (l + 1) (part N n.lo (l + 1) false) (part N n.hi (l + 1) false) a) (jb : JoinOf A (l + 1) (part N n.lo (l + 1) true) (part N n.hi (l + 1) true) b) : ∀ g, A g ≠ some ⟨l, a, b⟩ := by
  have hlo := hw.lo f n hn
  have hhi := hw.hi f n hn
  rw [hl] at hlo hhi
  have e2 : l + 1 + 1 = l + 2 := by omega
  have plo : ∀ v, Ok N (l + 2) (part N n.lo (l + 1) v) := fun v => e2 ▸ part_ok2 hw hlo v
  intro g hg
  rcases h.cases hg with ⟨_, _, h1, _⟩ | ⟨n', hn', h1 | h1 | h1 | h1⟩
  · simp at h1; omega
  · obtain ⟨q1, q2, q3⟩ := h1
    rw [← q3] at q1
    exact q1 rfl
  · obtain ⟨q1, q2, q3⟩ := h1
    simp only [Nd.mk.injEq, true_and] at q3
    obtain ⟨qa, qb⟩ := q3
    have hlo' := hw.lo g n' hn'
    have hhi' := hw.hi g n' hn'
    rw [q1, e2] at hlo' hhi'
    have ka : part N n.lo (l + 1) false = part N n.hi (l + 1) false := by
      rcases ja with ⟨r1, _⟩ | ⟨_, r2⟩
      · exact r1
      · exact absurd qa (h.deep hw hlo' r2 (Or.inl rfl))
    have kb : part N n.lo (l + 1) true = part N n.hi (l + 1) true := by
      rcases jb with ⟨r1, _⟩ | ⟨_, r2⟩
      · exact r1
      · exact absurd qb (h.deep hw hhi' r2 (Or.inl rfl))
    exact hw.ne f n hn (part_inj hw ka kb)
  · obtain ⟨q1, q2, q3, q4⟩ := h1
    simp only [Nd.mk.injEq] at q4
    omega
  · obtain ⟨q1, q2, q3, a', b', q4, ja', jb'⟩ := h1
    simp only [Nd.mk.injEq, true_and] at q4
    obtain ⟨qa, qb⟩ := q4
    subst qa qb
    have hlo' := hw.lo g n' hn'
    rw [q1] at hlo'
    have plo' : ∀ v, Ok N (l + 2) (part N n'.lo (l + 1) v) := fun v => e2 ▸ part_ok2 hw hlo' v
    obtain ⟨r1, r2⟩ := h.join_inj hw (plo false) (plo' false) ja ja'
    obtain ⟨r3, r4⟩ := h.join_inj hw (plo true) (plo' true) jb jb'
    have hlo2 := part_inj hw r1 r3
    have hhi2 := part_inj hw r2 r4
    have : n = n' := by cases n; cases n'; simp_all
    subst this
    rw [hw.uniq f g n hn hn'] at hP
    exact hP q3
theorem ExS.cr_put (hw : Wf N top last) (h : ExS N A l last lastc D S P) {f : Int} {n : Nd} (hn : N f = some n) (hl : n.lv = l) (hc : Cr N l n) (hP : ¬ P f) {a b : Int}
    (ja : JoinOf A (l + 1) (part N n.lo (l + 1) false) (part N n.hi (l + 1) false) a) (jb : JoinOf A (l + 1) (part N n.lo (l + 1) true) (part N n.hi (l + 1) true) b) : ExS N (upd A f ⟨l, a, b⟩) l last lastc D S (fun g => P g ∨ g = f) := by
  have hfr := h.cr_new hw hn hl hc hP ja jb
  have hf0 := h.cr0 f n hn hl hc hP
  have hs := sub_new (m := ⟨l, a, b⟩) hf0
  have oth : ∀ g, g ≠ f → upd A f ⟨l, a, b⟩ g = A g := fun g hg => upd_other _ hg
  have dif : ∀ g m, N g = some m → m.lv ≠ l → g ≠ f := fun g m hg hm e => by rw [e, hn] at hg; cases hg; exact hm hl
  have dif2 : ∀ g m, N g = some m → ¬ Cr N l m → g ≠ f := fun g m hg hm e => by rw [e, hn] at hg; cases hg; exact hm hc
  refine ⟨fun g m hg h1 h2 => hs _ _ (h.other g m hg h1 h2), fun g m hg h1 h2 => hs _ _ (h.low1 g m hg h1 h2), fun g m hg h1 h2 => by rw [oth g (dif g m hg (by omega))]; exact h.low0 g m hg h1 h2, fun g m hg h1 h2 h3 => hs _ _ (h.sink1 g m hg h1 h2 h3), fun g m hg h1 h2 h3 => by rw [oth g (dif2 g m hg h2)]; exact h.sink0 g m hg h1 h2 h3, fun g m hg h1 h2 h3 => ?_, fun g m hg h1 h2 h3 => ?_, fun g m hg h1 => ?_, fun g m hg => ?_, h.le, inj_upd h.uniq hfr⟩
  · by_cases e : g = f
    · subst e; rw [hn] at hg; cases hg; exact ⟨a, b, upd_same _ _ _, ja.mono hs, jb.mono hs⟩
    · obtain ⟨a', b', q1, q2, q3⟩ := h.cr1 g m hg h1 h2 (h3.resolve_right e)
      exact ⟨a', b', hs _ _ q1, q2.mono hs, q3.mono hs⟩
  · have e : g ≠ f := fun e => h3 (Or.inr e)
    rw [oth g e]; exact h.cr0 g m hg h1 h2 (fun q => h3 (Or.inl q))
  · have e : g ≠ f := fun e => by rw [e, hn] at h1; cases h1
    rw [oth g e] at hg; exact h.new g m hg h1
  · by_cases e : g = f
    · subst e; have := hw.range g n hn; have := h.le; omega
    · rw [oth g e] at hg; exact h.rg g m hg

/-! ### all done -/
theorem ExS.ok (_hl0 : 0 ≤ l) (h : ExS N A l last lastc D S P) (hD : ∀ f, D f) (hS : ∀ f, S f) (hP : ∀ f, AtLv N l f → P f) {j x : Int} (hx : Ok N j x) (hj : j ≤ l ∨ l + 2 ≤ j) : Ok A j x := by
  rcases hx with hx | hx | ⟨n, hn, hl⟩
  · exact Or.inl hx
  · exact Or.inr (Or.inl hx)
  · by_cases e1 : n.lv = l
    · by_cases ec : Cr N l n
      · obtain ⟨a, b, q, _⟩ := h.cr1 x n hn e1 ec (hP x ⟨n, hn, e1⟩)
        exact Or.inr (Or.inr ⟨_, q, by simp; omega⟩)
      · exact Or.inr (Or.inr ⟨_, h.sink1 x n hn e1 ec (hS x), by simp; omega⟩)
    · by_cases e2 : n.lv = l + 1
      · exact Or.inr (Or.inr ⟨_, h.low1 x n hn e2 (hD x), by simp; omega⟩)
      · exact Or.inr (Or.inr ⟨n, h.other x n hn e1 e2, hl⟩)
theorem ExS.wf (hw : Wf N top last) (hl0 : 0 ≤ l) (hl1 : l + 1 < top) (h : ExS N A l last lastc D S P) (hD : ∀ f, D f) (hS : ∀ f, S f) (hP : ∀ f, AtLv N l f → P f) : Wf A top lastc := by
  have okk : ∀ {j x : Int}, Ok N j x → (j ≤ l ∨ l + 2 ≤ j) → Ok A j x := fun hx hj => h.ok hl0 hD hS hP hx hj
  have e2 : l + 1 + 1 = l + 2 := by omega
  have jo : ∀ {x y r : Int}, Ok N (l + 2) x → JoinOf A (l + 1) x y r → Ok A (l + 1) r := by
    intro x y r hx hj
    rcases hj with ⟨_, rfl⟩ | ⟨_, q⟩
    · exact (okk hx (Or.inr (by omega))).mono (by omega)
    · exact ok_node q
  refine ⟨h.rg, fun f m hm => ?_, fun f m hm => ?_, fun f m hm => ?_, fun f m hm => ?_, h.uniq, by have := hw.one; have := h.le; omega, hw.tops⟩
  · rcases h.cases hm with ⟨_, _, q, _⟩ | ⟨n, hn, ⟨_, _, rfl⟩ | ⟨_, _, rfl⟩ | ⟨_, _, _, rfl⟩ | ⟨_, _, _, a, b, rfl, _⟩⟩
    · omega
    · exact hw.lv f m hn
    · simp; omega
    · simp; omega
    · simp; omega
  · rcases h.cases hm with ⟨_, _, q, _, q1, q2⟩ | ⟨n, hn, ⟨q1, q2, rfl⟩ | ⟨q1, _, rfl⟩ | ⟨q1, q2, _, rfl⟩ | ⟨q1, _, _, a, b, rfl, ja, jb⟩⟩
    · rw [q, e2]; exact okk q1 (Or.inr (by omega))
    · exact okk (hw.lo f m hn) (by omega)
    · have := hw.lo f n hn
      rw [q1, e2] at this
      exact (okk this (Or.inr (by omega))).mono (by simp)
    · have := hw.lo f n hn
      rw [q1] at this
      have := ok_drop hw this (fun q => q2 (Or.inl q))
      exact okk this (Or.inr (by simp; omega))
    · have := hw.lo f n hn
      rw [q1] at this
      exact jo (e2 ▸ part_ok2 hw this false) ja
  · rcases h.cases hm with ⟨_, _, q, _, q1, q2⟩ | ⟨n, hn, ⟨q1, q2, rfl⟩ | ⟨q1, _, rfl⟩ | ⟨q1, q2, _, rfl⟩ | ⟨q1, _, _, a, b, rfl, ja, jb⟩⟩
    · rw [q, e2]; exact okk q2 (Or.inr (by omega))
    · exact okk (hw.hi f m hn) (by omega)
    · have := hw.hi f n hn
      rw [q1, e2] at this
      exact (okk this (Or.inr (by omega))).mono (by simp)
    · have := hw.hi f n hn
      rw [q1] at this
      have := ok_drop hw this (fun q => q2 (Or.inr q))
      exact okk this (Or.inr (by simp; omega))
    · have := hw.lo f n hn
      rw [q1] at this
      exact jo (e2 ▸ part_ok2 hw this true) jb
  · rcases h.cases hm with ⟨_, _, q, q0, q1, q2⟩ | ⟨n, hn, ⟨q1, q2, rfl⟩ | ⟨q1, _, rfl⟩ | ⟨q1, q2, _, rfl⟩ | ⟨q1, qc, _, a, b, rfl, ja, jb⟩⟩
    · exact q0
    · exact hw.ne f m hn
    · exact hw.ne f n hn
    · exact hw.ne f n hn
    · intro hab
      simp only at hab
      subst hab
      have hlo := hw.lo f n hn
      have hhi := hw.hi f n hn
      rw [q1] at hlo hhi
      obtain ⟨r1, r2⟩ := h.join_inj hw (e2 ▸ part_ok2 hw hlo false) (e2 ▸ part_ok2 hw hlo true) ja jb
      rcases qc with ⟨m, hm, hml⟩ | ⟨m, hm, hml⟩
      · rw [part_at hm hml, part_at hm hml] at r1
        exact hw.ne _ m hm (by simpa using r1)
      · rw [part_at hm hml, part_at hm hml] at r2
        exact hw.ne _ m hm (by simpa using r2)

/-- two levels, each in the other's place -/
def swk (l k : Int) : Int := if k = l then l + 1 else if k = l + 1 then l else k
theorem swk_swk (l k : Int) : swk l (swk l k) = k := by
  unfold swk
  by_cases e1 : k = l
  · rw [if_pos e1, if_neg (by omega), if_pos rfl, e1]
  · rw [if_neg e1]
    by_cases e2 : k = l + 1
    · rw [if_pos e2, if_pos rfl, e2]
    · rw [if_neg e2, if_neg e1, if_neg e2]
theorem ExS.E (hw : Wf N top last) (hl0 : 0 ≤ l) (hl1 : l + 1 < top) (h : ExS N A l last lastc D S P) (hD : ∀ f, D f) (hS : ∀ f, S f) (hP : ∀ f, AtLv N l f → P f) {j f : Int} (hf : Ok N j f) (a : Int → Bool) : E A f a = E N f (fun k => a (swk l k)) := by
  have hwA := h.wf hw hl0 hl1 hD hS hP
  have s0 : swk l l = l + 1 := by simp [swk]
  have s1 : swk l (l + 1) = l := by simp [swk]
  refine ok_ind (P := fun f => Bdd.E A f a = Bdd.E N f (fun k => a (swk l k))) hw ?_ ?_ ?_ hf
  · rw [E_zero hw, E_zero hwA]
  · rw [E_one hw, E_one hwA]
  · intro f n hn i1 i2
    rw [E_node hw hn, ← i1, ← i2]
    by_cases e1 : n.lv = l
    · rw [e1, s0]
      by_cases ec : Cr N l n
      · obtain ⟨x, y, q, ja, jb⟩ := h.cr1 f n hn e1 ec (hP f ⟨n, hn, e1⟩)
        rw [E_node hwA q]
        have jE : ∀ {x y r : Int}, JoinOf A (l + 1) x y r → Bdd.E A r a = if a (l + 1) then Bdd.E A y a else Bdd.E A x a := by
          intro x y r hj
          rcases hj with ⟨r1, r2⟩ | ⟨_, r2⟩
          · rw [r2, r1]; simp
          · rw [E_node hwA r2]
        have pE : ∀ z, Bdd.E A z a = if a l then Bdd.E A (part N z (l + 1) true) a else Bdd.E A (part N z (l + 1) false) a := by
          intro z
          by_cases ez : AtLv N (l + 1) z
          · obtain ⟨m, hm, hml⟩ := ez
            rw [E_node hwA (h.low1 z m hm hml (hD z)), part_at hm hml, part_at hm hml]
            simp
          · rw [part_id ez, part_id ez]; simp
        rw [jE ja, jE jb, pE n.lo, pE n.hi]
        cases a l <;> cases a (l + 1) <;> simp
      · rw [E_node hwA (h.sink1 f n hn e1 ec (hS f))]
    · by_cases e2 : n.lv = l + 1
      · rw [E_node hwA (h.low1 f n hn e2 (hD f)), e2, s1]
      · rw [E_node hwA (h.other f n hn e1 e2)]
        have : swk l n.lv = n.lv := by simp [swk, e1, e2]
        rw [this]
end
end Go.Proofs.Ytmgjegokkbghlaa

namespace Go.Proofs.Ytmgjegokkbghlaa
open Go.RowKit Go.Maps Bdd
open Go.WideElems (Fit rd rg rd_key rd_val rg_of)
attribute [local go_sem ↓] Go.wp_at_zero Go.wp_at_succ

theorem namesG_inj {A : Tab} (hu : ∀ f g m, A f = some m → A g = some m → f = g) {f : Int} {n : Nd} (h : A f = some n) : namesG A (nodeV n) = some (.int .i64 f) := by
  have hex : ∃ f' n', A f' = some n' ∧ nodeV n = nodeV n' := ⟨f, n, h, rfl⟩
  unfold namesG
  rw [dif_pos hex]
  obtain ⟨n', h1, h2⟩ := hex.choose_spec
  have := nodeV_inj h2
  subst this
  rw [hu _ f n h1 h]
theorem namesG_back {A : Tab} (hu : ∀ f g m, A f = some m → A g = some m → f = g) {key v : Value} (h : namesG A key = some v) : ∃ f n, A f = some n ∧ key = nodeV n ∧ v = .int .i64 f := by
  unfold namesG at h
  split at h
  · rename_i hex
    obtain ⟨f, n, h1, h2⟩ := hex
    have : namesG A (nodeV n) = some (.int .i64 f) := namesG_inj hu h1
    refine ⟨f, n, h1, h2, ?_⟩
    unfold namesG at this
    rw [dif_pos ⟨f, n, h1, rfl⟩] at this
    cases h
    subst h2
    exact Option.some.inj this
  · cases h
/-- both maps of a table have as many entries -/
theorem same_size {w w' : World} {bn bm n1 n2 : Nat} {A : Tab} (hu : ∀ f g m, A f = some m → A g = some m → f = g) (hf : ∀ f m, A f = some m → Fits f ∧ Fits m.lv ∧ Fits m.lo ∧ Fits m.hi) (h1 : MapIs w Try.prog 115 bn n1 (namesG A)) (h2 : MapIs w' Try.prog 69 bm n2 (nodesG A)) : n1 = n2 := by
  classical
  obtain ⟨l1, d1, e1, k1, q1⟩ := h1.keys lawNode
  obtain ⟨l2, d2, e2, k2, q2⟩ := h2.keys lawFn
  have a1 : ∀ kl ∈ l1, ∃ f n, A f = some n ∧ keyOf Try.prog 115 (nodeV n) = some kl := by
    intro kl hkl
    obtain ⟨key, hkey⟩ := q1 kl hkl
    obtain ⟨v, hv⟩ := Option.isSome_iff_exists.1 ((k1 key kl hkey).2 hkl)
    obtain ⟨f, n, r1, r2, _⟩ := namesG_back hu hv
    exact ⟨f, n, r1, by rw [← r2]; exact hkey⟩
  have a2 : ∀ kl ∈ l2, ∃ f n, A f = some n ∧ keyOf Try.prog 69 (.int .i64 f) = some kl := by
    intro kl hkl
    obtain ⟨key, hkey⟩ := q2 kl hkl
    obtain ⟨v, hv⟩ := Option.isSome_iff_exists.1 ((k2 key kl hkey).2 hkl)
    obtain ⟨f, n, r1, r2, _⟩ := nodesG_back hv
    exact ⟨f, n, r1, by rw [← r2]; exact hkey⟩
  have b1 : ∀ f n, A f = some n → ∃ kl, keyOf Try.prog 115 (nodeV n) = some kl ∧ kl ∈ l1 := by
    intro f n hfn
    obtain ⟨_, z1, z2, z3⟩ := hf f n hfn
    obtain ⟨kl, hkl⟩ := key130 z1 z2 z3
    exact ⟨kl, hkl, (k1 _ kl hkl).1 (by show (namesG A (nodeV n)).isSome = true; rw [namesG_inj hu hfn]; rfl)⟩
  have b2 : ∀ f n, A f = some n → ∃ kl, keyOf Try.prog 69 (.int .i64 f) = some kl ∧ kl ∈ l2 := by
    intro f n hfn
    have hkl := keyFn (hf f n hfn).1
    exact ⟨_, hkl, (k2 _ _ hkl).1 (by simp [nodesG, hfn])⟩
  rw [← e1, ← e2]
  refine Nat.le_antisymm (map_le (fun kl => if h : kl ∈ l1 then (b2 _ _ (a1 kl h).choose_spec.choose_spec.1).choose else kl) d1 ?_ ?_) (map_le (fun kl => if h : kl ∈ l2 then (b1 _ _ (a2 kl h).choose_spec.choose_spec.1).choose else kl) d2 ?_ ?_)
  · intro x hx y hy e
    simp only [hx, hy, dif_pos] at e
    have p1 := (b2 _ _ (a1 x hx).choose_spec.choose_spec.1).choose_spec.1
    have p2 := (b2 _ _ (a1 y hy).choose_spec.choose_spec.1).choose_spec.1
    rw [e] at p1
    have p3 := lawFn.inj p1 p2
    have p4 := (a1 x hx).choose_spec.choose_spec
    have p5 := (a1 y hy).choose_spec.choose_spec
    simp only [Value.int.injEq, true_and] at p3
    have p8 := Option.some.inj ((p4.1).symm.trans ((congrArg A p3).trans p5.1))
    exact Option.some.inj (p4.2.symm.trans ((congrArg (fun n => keyOf Try.prog 115 (nodeV n)) p8).trans p5.2))
  · intro x hx
    simp only [hx, dif_pos]
    exact (b2 _ _ (a1 x hx).choose_spec.choose_spec.1).choose_spec.2
  · intro x hx y hy e
    simp only [hx, hy, dif_pos] at e
    have p1 := (b1 _ _ (a2 x hx).choose_spec.choose_spec.1).choose_spec.1
    have p2 := (b1 _ _ (a2 y hy).choose_spec.choose_spec.1).choose_spec.1
    rw [e] at p1
    have p3 := nodeV_inj (lawNode.inj p1 p2)
    have p4 := (a2 x hx).choose_spec.choose_spec
    have p5 := (a2 y hy).choose_spec.choose_spec
    have p7 := hu _ _ _ (p4.1.trans (congrArg some p3)) p5.1
    exact Option.some.inj (p4.2.symm.trans ((congrArg (fun f => keyOf Try.prog 69 (Value.int .i64 f)) p7).trans p5.2))
  · intro x hx
    simp only [hx, dif_pos]
    exact (b1 _ _ (a2 x hx).choose_spec.choose_spec.1).choose_spec.2

section
variable {P : Program} (w : World) {ops : Array Oper} {rest : List Oper} {o : Oper} {a : Act} {Q : Exit → Act → World → Prop}
/-- THE STEP of a range over keys of any type. -/
theorem wpList_nextAny (hg : o.guard = none) (it : Operand) (hop : o.op = Op.next it false) (k : TypeId) (K : Keyed P k) (b r n : Nat) (G : Value → Option Value) (left : Value → Bool) (cnt : Nat)
    (hit : a.eval it = .pointer (some ⟨r, 0, none⟩)) (h : RangeIs w P k b r n G left cnt)
    (hDone : cnt = 0 → (∀ x kl, keyOf P k x = some kl → left x = false) → wpList P ops Q rest (a.put o.dst (.tuple #[.bool false])) w)
    (hMore : ∀ (key v : Value) (kl : Lit) (w' : World) (cnt' : Nat), keyOf P k key = some kl → left key = true → G key = some v → RangeIs w' P k b r n G (strike left key) cnt' → cnt' < cnt →
      w.grownBy w' (some r) → w'.heap.size = w.heap.size → (Instr.entry (.pointer (some ⟨r, 0, none⟩))).run P w' = .ok (.tuple #[key, v]) w' → wpList P ops Q rest (a.put o.dst (.tuple #[.bool true, key, v])) w') :
    wpList P ops Q (o :: rest) a w := by
  obtain ⟨D, lf, hrg, hs, hv, hl⟩ := h
  refine wpList_plain hg fun K' hK' => ?_
  unfold Oper.wp
  rcases hrg.next K o.type with ⟨h0, hlf, hrun⟩ | ⟨key, v, kl, y, w', cnt', hkey, hlk, hvv, hat, hrun, hrg', hlt, hgr, hsz, hen⟩
  · simp [execOp, hop, hit, hrun, Result.andThen]
    exact hK' _ _ (hDone h0 (fun x kl hkx => by rw [← hl _ _ hkx]; exact hlf _))
  · have hy : y.1 = .held v := by obtain ⟨y1, y2⟩ := y; exact tok_eq hvv
    have hG : G key = some v := by
      rw [← hv _ _ hkey]
      exact view_some (has_true_of_atKey hat) (by rw [hat]; exact hy)
    simp [execOp, hop, hit, hrun, Result.andThen]
    refine hK' _ _ (hMore key v kl w' cnt' hkey (by rw [← hl _ _ hkey]; exact hlk) hG ⟨D, _, hrg', hs, hv, fun key' kl' hkey' => ?_⟩ hlt hgr hsz hen)
    by_cases e : kl' = kl
    · subst e
      have := K.inj hkey' hkey
      subst this
      rw [strike_same, WideAt.sameKey_self (K.key hkey)]
      simp
    · rw [strike_other _ (fun e' => e (by rw [e', hkey] at hkey'; cases hkey'; rfl)), sameKey_ne e, hl _ _ hkey']
      simp
end
theorem RangeIs.congr {P : Program} {k : TypeId} {w : World} {b r n : Nat} {G G' : Value → Option Value} {left : Value → Bool} {cnt : Nat} (h : RangeIs w P k b r n G left cnt) (hG : ∀ x kl, keyOf P k x = some kl → G x = G' x) : RangeIs w P k b r n G' left cnt := by
  obtain ⟨D, lf, hrg, hs, hv, hl⟩ := h
  exact ⟨D, lf, hrg, hs, fun key kl hk => (hv key kl hk).trans (hG key kl hk), hl⟩

end Go.Proofs.Ytmgjegokkbghlaa

namespace Go.Proofs.Ytmgjegokkbghlaa
open Go.RowKit Go.Maps Bdd
attribute [local go_sem ↓] Go.wp_at_zero Go.wp_at_succ

/-- is a function's first node at this level? -/
def atB (N : Tab) (l : Int) (f : Int) : Bool := match N f with | some n => n.lv == l | none => false
theorem atB_iff (N : Tab) (l f : Int) : atB N l f = true ↔ AtLv N l f := by
  unfold atB AtLv
  cases N f with
  | none => simp
  | some n => simp


/-- is the entry of a function's node still to come? -/
def leftN (N : Tab) (left : Value → Bool) (f : Int) : Bool := match N f with | some n => left (nodeV n) | none => false
def restT (N : Tab) (S0 : Int → Bool) (l : Int) (left : Value → Bool) (f : Int) : Bool := S0 f && (!atB N l f || leftN N left f)
def takenT (N : Tab) (S0 : Int → Bool) (l : Int) (left : Value → Bool) (f : Int) : Bool := S0 f && (atB N l f && !leftN N left f)
theorem leftN_strike {N : Tab} {top last : Int} (hw : Wf N top last) {left : Value → Bool} {f : Int} {n : Nd} (hn : N f = some n) (g : Int) : leftN N (strike left (nodeV n)) g = if g = f then false else leftN N left g := by
  unfold leftN
  cases hg : N g with
  | none =>
    by_cases e : g = f
    · rw [e, hn] at hg; cases hg
    · simp [e]
  | some m =>
    by_cases e : g = f
    · subst e
      rw [hn] at hg
      cases hg
      simp [strike_same]
    · simp only [e, if_false]
      refine strike_other _ (fun e' => e ?_)
      have := nodeV_inj e'
      subst this
      exact hw.uniq g f m hg hn

theorem nodes_add {N : Tab} {S S' : Int → Bool} {f : Int} {n : Nd} (hx : N f = some n) (hS' : S' f = true) (hSS : ∀ g, g ≠ f → S' g = S g) (v : Value) : setG (nodesG (keep N S)) (.int .i64 f) (some (nodeV n)) v = nodesG (keep N S') v := by
  by_cases e : v = .int .i64 f
  · subst e; rw [setG_same]
    simp [nodesG, keep, hS', hx]
  · rw [setG_other _ _ e]
    unfold nodesG
    split
    · rename_i x
      have : x ≠ f := fun ex => e (by rw [ex])
      simp only [keep, hSS x this]
    · rfl

/-- 'delete(m, k)' in the round, as it runs -/
theorem RangeIs.dropRun {P : Program} {k : TypeId} {w : World} {b r n : Nat} {G : Value → Option Value} {left : Value → Bool} {cnt : Nat} (h : RangeIs w P k b r n G left cnt) (K : Keyed P k) {t e : TypeId} (ht : P.underlying t = some (.map k e)) {key : Value} {kl : Lit} (hkey : keyOf P k key = some kl) (hleft : left key = false) (ty : TypeId) :
    ∃ w' cnt', (Builtin.delete_ #[t, k] ty #[.map (some b), key]).run P w = .ok (.tuple #[]) w' ∧ RangeIs w' P k b r (if (G key).isSome then n - 1 else n) (setG G key none) left cnt' ∧ cnt' ≤ cnt ∧ w.grownBy w' (some b) := by
  obtain ⟨D, lf, hrg, hs, hv, hl⟩ := h
  have hown := hrg.owns
  obtain ⟨w', cnt', hrun, r1, r2, r3⟩ := hrg.drop K ht hkey ty
  have hsz : Maps.size (D.del kl) = if (G key).isSome then n - 1 else n := by
    have := size_del (k := kl) (hown.tidy K)
    rw [← view_isSome hown kl, hv key kl hkey, hs] at this
    split at this <;> simp_all <;> omega
  refine ⟨w', cnt', hrun, ⟨D.del kl, fun x => lf x && !x.sameKey kl, ?_, hsz, ?_, ?_⟩, r2, r3.grown⟩
  · obtain ⟨es, clock, since, seen, c0, hb', F, _, hD, q⟩ := r1
    refine ⟨es, clock, since, seen, c0, hb', F, ?_, hD, q⟩
    rw [← hsz, hD]
    simp [Maps.size, length_sorted]
  · intro key' kl' hkey'
    by_cases e' : kl' = kl
    · subst e'
      have := K.inj hkey' hkey
      subst this
      rw [setG_same, view_none has_del_same]
    · rw [setG_other _ _ (fun ek => e' (by rw [ek] at hkey'; rw [hkey] at hkey'; cases hkey'; rfl)), ← hv key' kl' hkey']
      unfold view
      rw [has_del_other e', atKey_del_other e']
  · intro key' kl' hkey'
    by_cases e' : kl' = kl
    · subst e'
      have := K.inj hkey' hkey
      subst this
      show (lf kl' && !kl'.sameKey kl') = left key'
      rw [hl _ _ hkey', hleft]; rfl
    · show (lf kl' && !kl'.sameKey kl) = left key'
      rw [sameKey_ne e', hl _ _ hkey']; simp

set_option maxRecDepth 100000 in
set_option maxHeartbeats 2000000 in
theorem take_any {w : World} {t bn n1 : Nat} {N : Tab} {top last l : Int} {S0 : Int → Bool} (hw : Wf N top last) (hbig : last ≤ 4611686018427387904) (c0 : w.cell? ⟨t, 0, none⟩ = some (.map (some bn))) (hm : MapIs w Try.prog 115 bn n1 (namesG (keep N S0))) (hn1 : n1 < 1000000) :
    Calls Try.prog 84 #[.pointer (some ⟨t, 0, none⟩), .int .i64 l] w fun e w' => ∃ mb cn n1', e = .returned (.map (some mb)) ∧ w.heap.size ≤ mb ∧ MapIs w' Try.prog 69 mb cn (nodesG (keep N (fun f => S0 f && atB N l f))) ∧ cn ≤ n1 ∧
      MapIs w' Try.prog 115 bn n1' (namesG (keep N (fun f => S0 f && !atB N l f))) ∧ n1' ≤ n1 ∧ Keeps [bn] w w' := by
  have hmm := @run_makeMap Try.prog
  have hml : (1000000 : Nat) < maxLen := by decide
  have hlt := hm.lt
  have htl : t < w.heap.size := cell_lt c0
  have hnt := hm.ne_cell c0
  simp only at hnt
  obtain ⟨W, hW⟩ : ∃ W, W = w.alloc (.map #[] 0) := ⟨_, rfl⟩
  have hkW : Keeps [] w W := by rw [hW]; exact (Keeps.refl _ _).alloc _
  have hWs : W.heap.size = w.heap.size + 1 := by rw [hW]; simp
  have hset : MapIs W Try.prog 69 w.heap.size 0 (nodesG (fun _ => none)) := by
    rw [hW]; exact (MapIs.made w Try.prog 69).congr (fun v _ _ => by unfold nodesG; split <;> rfl)
  have hmW := hm.keeps hkW (by simp)
  have HW : Hid (W = w.alloc (.map #[] 0)) := hW
  have c0' := hkW.cell c0 (by simp)
  rw [hW] at c0'
  clear hW
  go_enter Try.func84, Try.ntmps84
  go_wp2_with (first
    | (at_range; rw [← HW.out]; refine wpList_rangeIs _ rfl _ 109 rfl 115 69 lawNode Try.underlying109 bn n1 (namesG (keep N S0)) rfl hmW ?_; intro w0 hrg0 hg0 hs0; rw [hWs] at hrg0; rw [hWs])
    | go_in)
  go_frame
  obtain ⟨lf, hlf⟩ : ∃ lf : Value → Bool, lf = fun x => (namesG (keep N S0) x).isSome := ⟨_, rfl⟩
  rw [← hlf] at hrg0
  have hS0 : ∀ f n, N f = some n → S0 f = true → leftN N lf f = true := by
    intro f n hn hs
    simp only [leftN, hn, hlf]
    rw [namesG_iff hw (keep_some.2 ⟨hs, hn⟩)]
    rfl
  clear hlf
  have hfits := hw.fitsN hbig
  have HF : Hid (∀ f n, N f = some n → Fits f ∧ Fits n.lv ∧ Fits n.lo ∧ Fits n.hi) := hfits
  have HS0 : Hid (∀ f n, N f = some n → S0 f = true → leftN N lf f = true) := hS0
  clear hfits hS0
  go_loopw [6, 7] (fun _ _ wr => ∃ (left : Value → Bool) (cnt cn n1r : Nat), RangeIs wr Try.prog 115 bn (w.heap.size + 1) n1r (namesG (keep N (restT N S0 l left))) left cnt ∧ MapIs wr Try.prog 69 w.heap.size cn (nodesG (keep N (takenT N S0 l left))) ∧ n1r ≤ n1 ∧ cn + cnt ≤ n1 ∧ Keeps [bn, w.heap.size, w.heap.size + 1] W wr)
    (fun _ _ wr => wr.rangeLeft bn (w.heap.size + 1))
  case atStart =>
    refine ⟨lf, n1, 0, n1, hrg0.congr (fun x _ _ => ?_), (hset.grown hg0 (by simp)).congr (fun x _ _ => ?_), Nat.le_refl _, by omega, (Keeps.refl _ _).grown hg0 (by simp)⟩
    · refine congrArg (fun T => namesG T x) (keep_congr (S := S0) (S' := restT N S0 l lf) (fun f n hn => ?_))
      unfold restT
      cases hs : S0 f with
      | false => rfl
      | true => simp [HS0.out f n hn hs]
    · refine congrArg (fun T => nodesG T x) ?_
      funext f
      unfold keep takenT
      cases hn : N f with
      | none => simp
      | some n =>
        cases hs : S0 f with
        | false => simp
        | true => rw [HS0.out f n hn hs]; simp
  case round =>
    obtain ⟨left, cnt, cn, n1r, hrg, hmt, hn1r, hcn, hkr⟩ := hrel
    go_wp2_with (first
      | (at_next; refine wpList_nextAny _ rfl _ rfl 115 lawNode bn (w.heap.size + 1) n1r _ left cnt rfl hrg ?_ ?_)
      | go_in)
    · intro hc0 hleft
      go_wp2_with fail
      go_ret
      have hL : ∀ f n, N f = some n → leftN N left f = false := by
        intro f n hn
        obtain ⟨z0, z1, z2, z3⟩ := HF.out f n hn
        obtain ⟨kl, hkl⟩ := key130 z1 z2 z3
        simp only [leftN, hn]
        exact hleft _ kl hkl
      refine ⟨_, cn, n1r, rfl, Nat.le_refl _, hmt.congr (fun x _ _ => ?_), by omega, hrg.owns.congr (fun x _ _ => ?_), hn1r, ((hkW.mono (by simp)).trans hkr).strike (by simp; omega)⟩
      · refine congrArg (fun T => nodesG T x) (keep_congr (fun f n hn => ?_))
        simp [takenT, hL f n hn]
      · refine congrArg (fun T => namesG T x) (keep_congr (fun f n hn => ?_))
        simp [restT, hL f n hn]
    · intro key v kl w1 cnt1 hkey hlk hGk hrg1 hlt1 hg1 hs1 hen
      obtain ⟨f, n, hfn, e1, e2⟩ := namesG_back (A := keep N (restT N S0 l left)) (fun f g m h1 h2 => hw.uniq f g m (keep_some.1 h1).2 (keep_some.1 h2).2) hGk
      obtain ⟨hR, hn⟩ := keep_some.1 hfn
      subst e1 e2
      have hls := leftN_strike (left := left) hw hn
      have hRS : ∀ g, g ≠ f → restT N S0 l (strike left (nodeV n)) g = restT N S0 l left g := fun g hg => by unfold restT; rw [hls g, if_neg hg]
      have hTS : ∀ g, g ≠ f → takenT N S0 l (strike left (nodeV n)) g = takenT N S0 l left g := fun g hg => by unfold takenT; rw [hls g, if_neg hg]
      have hS0f : S0 f = true := by unfold restT at hR; simp at hR; exact hR.1
      have hk1 : Keeps [bn, w.heap.size, w.heap.size + 1] W w1 := hkr.grown hg1 (by simp)
      have hmt1 := hmt.grown hg1 (by simp)
      have HK : Hid (keyOf Try.prog 115 (nodeV n) = some kl) := hkey
      have HN : Hid (N f = some n) := hn
      have HFf := (HF.out f n hn).1
      have HRS : Hid (∀ g, g ≠ f → restT N S0 l (strike left (nodeV n)) g = restT N S0 l left g) := hRS
      have HTS : Hid (∀ g, g ≠ f → takenT N S0 l (strike left (nodeV n)) g = takenT N S0 l left g) := hTS
      have HLS : Hid (leftN N (strike left (nodeV n)) f = false) := by show _ = _; rw [hls f, if_pos rfl]
      have HSF : Hid (S0 f = true) := hS0f
      have HGk : Hid (namesG (keep N (restT N S0 l left)) (nodeV n) = some (.int .i64 f)) := hGk
      obtain ⟨left', hleft'⟩ : ∃ left', left' = strike left (nodeV n) := ⟨_, rfl⟩
      have HL' : Hid (left' (nodeV n) = false) := by show _ = _; rw [hleft']; exact strike_same _ _
      rw [← hleft'] at hrg1 HRS HTS HLS
      have HLE : Hid (wr.rangeLeft bn (w.heap.size + 1) = cnt) := hrg.left_eq
      clear hkey hn hR hfn hls hRS hTS hS0f hGk hleft' hlk hrg
      by_cases q : n.lv = l
      · have q' : (n.lv == l) = true := by simp [q]
        have hat : atB N l f = true := by simp [atB, HN.out, q]
        have HAT : Hid (atB N l f = true) := hat
        clear hat q hs1
        obtain ⟨W1, hW1⟩ : ∃ W1, W1 = w1.alloc (.cells #[.int .i64 n.lv, .int .i64 n.lo, .int .i64 n.hi] 115) := ⟨_, rfl⟩
        have kW1 : Keeps [] w1 W1 := by rw [hW1]; exact (Keeps.refl _ _).alloc _
        have b0 : W1.cell? ⟨w1.heap.size, 0, none⟩ = some (.int .i64 n.lv) := by rw [hW1]; simp
        have b1 : W1.cell? ⟨w1.heap.size, 1, none⟩ = some (.int .i64 n.lo) := by rw [hW1]; simp
        have b2 : W1.cell? ⟨w1.heap.size, 2, none⟩ = some (.int .i64 n.hi) := by rw [hW1]; simp
        have hrgW : RangeIs W1 Try.prog 115 bn (w.heap.size + 1) n1r (namesG (keep N (restT N S0 l left))) left' cnt1 := by rw [hW1]; exact hrg1.alloc _
        have hmW2 := hmt1.keeps kW1 (by simp)
        obtain ⟨w2, hr2, hm2, hg2⟩ := hmW2.update lawFn Try.underlying110 (by omega) (keyFn HFf) (nodeV n)
        have kg2 : Keeps [w.heap.size] W1 w2 := (Keeps.refl _ _).grown hg2 (by simp)
        have hrg2 := hrgW.keeps kg2 (by simp; omega) (by simp)
        obtain ⟨w3, cnt3, hr3, hrg3, hle3, hg3⟩ := (show RangeIs w2.drew Try.prog 115 bn (w.heap.size + 1) n1r (namesG (keep N (restT N S0 l left))) left' cnt1 from hrg2).dropRun lawNode Try.underlying109 HK.out HL'.out 0
        have hsz1 : W.heap.size ≤ w1.heap.size := hk1.size
        have nB : w1.heap.size ∉ [w.heap.size] := by simp; omega
        have b0' := kg2.cell b0 nB
        have b1' := kg2.cell b1 nB
        have b2' := kg2.cell b2 nB
        have c1 := hk1.cell (hkW.cell c0 (by simp)) (by simp; omega)
        have c2 := kg2.cell (kW1.cell c1 (by simp)) (by simp; omega)
        have hm3 := (show MapIs w2.drew Try.prog 69 w.heap.size _ _ from hm2).grown hg3 (by simp; omega)
        have hk3 : Keeps [bn, w.heap.size, w.heap.size + 1] W w3 := ((((hk1.trans (kW1.mono (by simp))).trans (kg2.mono (by simp))).drew).grown hg3 (by simp))
        have HM3 : Hid (MapIs w3 Try.prog 69 w.heap.size (if (nodesG (keep N (takenT N S0 l left)) (.int .i64 f)).isSome then cn else cn + 1) (setG (nodesG (keep N (takenT N S0 l left))) (.int .i64 f) (some (nodeV n)))) := hm3
        have HR3 : Hid (RangeIs w3 Try.prog 115 bn (w.heap.size + 1) (if (namesG (keep N (restT N S0 l left)) (nodeV n)).isSome then n1r - 1 else n1r) (setG (namesG (keep N (restT N S0 l left))) (nodeV n) none) left' cnt3) := hrg3
        clear hm3 hrg3 hm2 hrg2 hrgW hrg1 hmW2 hmt1
        unfold nodeV trip at hr2 hr3 hen ⊢
        subst hW1
        go_wp2_with fail
        go_region
        go_wp2_with fail
        go_roundw
        case rel =>
          refine ⟨left', cnt3, _, _, HR3.out.congr (fun x _ _ => ?_), HM3.out.congr (fun x _ _ => ?_), ?_, ?_, hk3⟩
          · exact names_strike hw HN.out (by simp [restT, HAT.out, HLS.out]) HRS.out x
          · exact nodes_add HN.out (by simp [takenT, HAT.out, HLS.out, HSF.out]) HTS.out x
          · split <;> omega
          · split <;> omega
        case measure => rw [HR3.out.left_eq, HLE.out]; omega
      · have q' : (n.lv == l) = false := by simp [q]
        have hat : atB N l f = false := by simp [atB, HN.out, q]
        have HAT : Hid (atB N l f = false) := hat
        clear hat
        unfold nodeV trip at hen ⊢
        go_wp2_with fail
        go_roundw
        case rel =>
          refine ⟨left', cnt1, cn, n1r, (hrg1.alloc _).congr (fun x _ _ => ?_), (hmt1.alloc _).congr (fun x _ _ => ?_), hn1r, by omega, hk1.alloc _⟩
          · refine congrArg (fun T => namesG T x) (keep_congr (fun g m hg => ?_))
            by_cases e : g = f
            · subst e; simp [restT, HAT.out]
            · exact (HRS.out g e).symm
          · refine congrArg (fun T => nodesG T x) (keep_congr (fun g m hg => ?_))
            by_cases e : g = f
            · subst e; simp [takenT, HAT.out]
            · exact (HTS.out g e).symm
        case measure => rw [(hrg1.alloc _).left_eq, HLE.out]; exact hlt1

end Go.Proofs.Ytmgjegokkbghlaa

namespace Go.Proofs.Ytmgjegokkbghlaa
open Go.RowKit Go.Maps Bdd
attribute [local go_sem ↓] Go.wp_at_zero Go.wp_at_succ

/-- what is found, over what was there -/
def ov (A N : Tab) : Tab := fun f => match A f with | some m => some m | none => N f
theorem ov_some {A N : Tab} {f : Int} {m : Nd} (h : A f = some m) : ov A N f = some m := by simp [ov, h]
theorem ov_none {A N : Tab} {f : Int} (h : A f = none) : ov A N f = N f := by simp [ov, h]
theorem ov_upd (A N : Tab) (f : Int) (m : Nd) : ov (upd A f m) N = upd (ov A N) f m := by
  funext g
  by_cases e : g = f
  · subst e; rw [upd_same]; exact ov_some (upd_same _ _ _)
  · rw [upd_other _ e]; simp only [ov, upd_other _ e]

/-- A TABLE ON THE WAY. -/
structure TabX (w : World) (t bn bm n1 n2 : Nat) (A N : Tab) (lastc : Int) : Prop where
  c0 : w.cell? ⟨t, 0, none⟩ = some (.map (some bn))
  c1 : w.cell? ⟨t, 1, none⟩ = some (.map (some bm))
  c2 : w.cell? ⟨t, 2, none⟩ = some (.int .i64 lastc)
  f2 : w.frozen? ⟨t, 2, none⟩ = false
  names : MapIs w Try.prog 115 bn n1 (namesG A)
  nodes : MapIs w Try.prog 69 bm n2 (nodesG (ov A N))
  ne : bn ≠ bm
  u : ∀ f g m, A f = some m → A g = some m → f = g
  big : lastc ≤ 4611686018427387904
  one : 1 ≤ lastc

section
variable {w w' : World} {t bn bm n1 n2 : Nat} {A N : Tab} {lastc : Int}

theorem TabX.keeps {S : List Nat} (h : TabX w t bn bm n1 n2 A N lastc) (hk : Keeps S w w') (h1 : t ∉ S) (h2 : bn ∉ S) (h3 : bm ∉ S) : TabX w' t bn bm n1 n2 A N lastc :=
  ⟨hk.cell h.c0 h1, hk.cell h.c1 h1, hk.cell h.c2 h1, (hk.frozen (cell_lt h.c2) h1).trans h.f2, h.names.keeps hk h2, h.nodes.keeps hk h3, h.ne, h.u, h.big, h.one⟩
theorem TabX.tn (h : TabX w t bn bm n1 n2 A N lastc) : t ∉ [bn, bm] := by
  have h1 := h.names.ne_cell h.c0
  have h2 := h.nodes.ne_cell h.c0
  simp only at h1 h2
  simp; exact ⟨h1, h2⟩

theorem names_put (hu : ∀ f g m, A f = some m → A g = some m → f = g) {f : Int} {m : Nd} (hA : A f = none) (hfr : ∀ g, A g ≠ some m) (v : Value) : setG (namesG A) (nodeV m) (some (.int .i64 f)) v = namesG (upd A f m) v := by
  have hu' := inj_upd (f := f) hu hfr
  by_cases e : v = nodeV m
  · subst e
    rw [setG_same]
    exact (namesG_inj hu' (upd_same A f m)).symm
  · rw [setG_other _ _ e]
    by_cases hex : ∃ g n, A g = some n ∧ v = nodeV n
    · obtain ⟨g, n, hn, rfl⟩ := hex
      rw [namesG_inj hu hn, namesG_inj hu' (sub_new hA g n hn)]
    · have hex' : ¬ ∃ g n, upd A f m g = some n ∧ v = nodeV n := by
        rintro ⟨g, n, hn, rfl⟩
        by_cases ef : g = f
        · subst ef; rw [upd_same] at hn; cases hn; exact e rfl
        · rw [upd_other _ ef] at hn; exact hex ⟨g, n, hn, rfl⟩
      unfold namesG
      rw [dif_neg hex, dif_neg hex']
theorem nodes_put (f : Int) (m : Nd) (v : Value) : setG (nodesG (ov A N)) (.int .i64 f) (some (nodeV m)) v = nodesG (ov (upd A f m) N) v := by
  rw [ov_upd]
  by_cases e : v = .int .i64 f
  · subst e; rw [setG_same]; simp [nodesG, upd_same]
  · rw [setG_other _ _ e]
    unfold nodesG
    split
    · rename_i x
      rw [upd_other _ (fun ef => e (by rw [ef]))]
    · rfl

theorem put_x (h : TabX w t bn bm n1 n2 A N lastc) {f : Int} {m n : Nd} (hA : A f = none) (hN : N f = some n) (hfr : ∀ g, A g ≠ some m) (hf : Fits f) (hl : Fits m.lv) (hx : Fits m.lo) (hy : Fits m.hi) (hn1 : n1 < maxLen) (hn2 : n2 < maxLen) :
    Calls Try.prog 81 #[.pointer (some ⟨t, 0, none⟩), .int .i64 f, trip m.lv m.lo m.hi] w fun e w' => e = .returned (.tuple #[]) ∧ (∃ n1', n1' ≤ n1 + 1 ∧ TabX w' t bn bm n1' n2 (upd A f m) N lastc) ∧ Keeps [bn, bm] w w' := by
  refine (put_any h.c0 h.c1 h.names h.nodes h.ne hf hl hx hy hn1 hn2).mono ?_
  rintro e w' ⟨rfl, r1, r2, hk⟩
  rw [upSz_old (by simp [nodesG, ov_none hA, hN])] at r2
  exact ⟨rfl, ⟨_, upSz_le _ _ _, hk.cell h.c0 h.tn, hk.cell h.c1 h.tn, hk.cell h.c2 h.tn, (hk.frozen (p := ⟨t, 2, none⟩) (cell_lt h.c2) h.tn).trans h.f2, r1.congr (fun v _ _ => names_put h.u hA hfr v), r2.congr (fun v _ _ => nodes_put f m v), h.ne, inj_upd h.u hfr, h.big, h.one⟩, hk⟩

set_option maxRecDepth 100000 in
set_option maxHeartbeats 400000 in
theorem joinX_known {G : Value → Option Value} (c0 : w.cell? ⟨t, 0, none⟩ = some (.map (some bn))) (hm : MapIs w Try.prog 115 bn n1 G) {f l x y : Int} (hG : G (trip l x y) = some (.int .i64 f)) (hl : Fits l) (hx : Fits x) (hy : Fits y) (hne : x ≠ y) :
    Calls Try.prog 74 #[.pointer (some ⟨t, 0, none⟩), trip l x y] w fun e w' => e = .returned (.int .i64 f) ∧ Keeps [] w w' := by
  obtain ⟨kl, hkey⟩ := key130 hl hx hy
  have hrun : ∀ (o : Obj) (q : Nat), (Instr.lookup 109 (.map (some bn)) (.agg #[.int .i64 l, .int .i64 x, .int .i64 y]) true).run Try.prog ((w.alloc o).drewN q) = .ok (.tuple #[.int .i64 f, .bool true]) ((w.alloc o).drewN q) := by
    intro o q
    have := (((hm.alloc o).drewN q).look lawNode Try.underlying109 (zeroFn _) hkey).1
    rw [hG] at this
    exact this
  have hb : (x == y) = false := by simp [hne]
  have htn : t < w.heap.size := cell_lt c0
  clear hG hkey
  unfold trip
  go_enter Try.func74, Try.ntmps74
  go_wp2
  go_quiet (fail)
  go_wp2
  go_ret
  exact ⟨rfl, ((Keeps.refl _ _).alloc _).drewN _⟩

set_option maxRecDepth 100000 in
set_option maxHeartbeats 400000 in
theorem joinX_new {G1 G2 : Value → Option Value} (c0 : w.cell? ⟨t, 0, none⟩ = some (.map (some bn))) (c1 : w.cell? ⟨t, 1, none⟩ = some (.map (some bm))) (c2 : w.cell? ⟨t, 2, none⟩ = some (.int .i64 lastc)) (f2 : w.frozen? ⟨t, 2, none⟩ = false) (h1 : MapIs w Try.prog 115 bn n1 G1) (h2 : MapIs w Try.prog 69 bm n2 G2) (hbb : bn ≠ bm)
    {l x y : Int} (hG : G1 (trip l x y) = none) (hG2 : G2 (.int .i64 (lastc + 1)) = none) (hl : Fits l) (hx : Fits x) (hy : Fits y) (hne : x ≠ y) (hone : 1 ≤ lastc) (hlast : lastc + 1 ≤ 4611686018427387904) (hn1 : n1 < maxLen) (hn2 : n2 < maxLen) :
    Calls Try.prog 74 #[.pointer (some ⟨t, 0, none⟩), trip l x y] w fun e w' => e = .returned (.int .i64 (lastc + 1)) ∧ w'.cell? ⟨t, 2, none⟩ = some (.int .i64 (lastc + 1)) ∧ w'.cell? ⟨t, 0, none⟩ = some (.map (some bn)) ∧ w'.cell? ⟨t, 1, none⟩ = some (.map (some bm)) ∧ w'.frozen? ⟨t, 2, none⟩ = false ∧
      MapIs w' Try.prog 115 bn (n1 + 1) (setG G1 (trip l x y) (some (.int .i64 (lastc + 1)))) ∧ MapIs w' Try.prog 69 bm (n2 + 1) (setG G2 (.int .i64 (lastc + 1)) (some (trip l x y))) ∧ Keeps [t, bn, bm] w w' := by
  obtain ⟨kl, hkey⟩ := key130 hl hx hy
  have hrun : ∀ (o : Obj) (q : Nat), (Instr.lookup 109 (.map (some bn)) (.agg #[.int .i64 l, .int .i64 x, .int .i64 y]) true).run Try.prog ((w.alloc o).drewN q) = .ok (.tuple #[.int .i64 0, .bool false]) ((w.alloc o).drewN q) := by
    intro o q
    have := (((h1.alloc o).drewN q).look lawNode Try.underlying109 (zeroFn _) hkey).1
    rw [hG] at this
    exact this
  have hb : (x == y) = false := by simp [hne]
  have htn : t < w.heap.size := cell_lt c0
  have ntt : ¬ w.heap.size = t := by omega
  have HG : Hid (G1 (trip l x y) = none) := hG
  have HG2 : Hid (G2 (.int .i64 (lastc + 1)) = none) := hG2
  obtain ⟨T, hT⟩ : ∃ T, T = trip l x y := ⟨_, rfl⟩
  have HTT : Hid (T = trip l x y) := hT
  rw [← hT]
  have e0 : trip l x y = .agg #[.int .i64 l, .int .i64 x, .int .i64 y] := rfl
  clear hG hG2 hkey
  rw [show (#[Value.pointer (some ⟨t, 0, none⟩), T] : Array Value) = #[.pointer (some ⟨t, 0, none⟩), .agg #[.int .i64 l, .int .i64 x, .int .i64 y]] from by rw [hT]; rfl]
  clear hT e0
  go_enter Try.func74, Try.ntmps74
  go_wp2
  go_quiet (fail)
  go_wp2
  obtain ⟨W, hW⟩ : ∃ W, W = (((w.alloc (Obj.cells #[Value.int IntKind.i64 l, Value.int IntKind.i64 x, Value.int IntKind.i64 y] 115)).drewN nq).setCell { block := t, off := 2 } (Value.int IntKind.i64 (lastc + 1))) := ⟨_, rfl⟩
  rw [← hW]
  have hK : Keeps [t] w W := by rw [hW]; exact (((Keeps.refl _ _).alloc _).drewN _).setCell _ (Or.inl (by simp)) _
  have m1 := h1.ne_cell c0
  have m2 := h2.ne_cell c0
  simp only at m1 m2
  have hnW := h1.keeps hK (by simp; exact fun e => m1 e.symm)
  have hmW := h2.keeps hK (by simp; exact fun e => m2 e.symm)
  have k0 : W.cell? ⟨t, 0, none⟩ = some (.map (some bn)) := by rw [hW, World.cell?_setCell_other _ _ _ _ (by simp)]; show (w.alloc _).cell? _ = _; rw [World.cell?_alloc_past _ _ _ htn]; exact c0
  have k1 : W.cell? ⟨t, 1, none⟩ = some (.map (some bm)) := by rw [hW, World.cell?_setCell_other _ _ _ _ (by simp)]; show (w.alloc _).cell? _ = _; rw [World.cell?_alloc_past _ _ _ htn]; exact c1
  have k2 : W.cell? ⟨t, 2, none⟩ = some (.int .i64 (lastc + 1)) := by rw [hW]; refine World.cell?_setCell_same _ _ _ (u := .int .i64 lastc) ?_; show (w.alloc _).cell? _ = _; rw [World.cell?_alloc_past _ _ _ htn]; exact c2
  have b0 : W.cell? ⟨w.heap.size, 0, none⟩ = some (.int .i64 l) := by rw [hW, World.cell?_setCell_other _ _ _ _ (by first | (simp; done) | (simp; omega))]; show (w.alloc _).cell? _ = _; simp
  have b1 : W.cell? ⟨w.heap.size, 1, none⟩ = some (.int .i64 x) := by rw [hW, World.cell?_setCell_other _ _ _ _ (by first | (simp; done) | (simp; omega))]; show (w.alloc _).cell? _ = _; simp
  have b2 : W.cell? ⟨w.heap.size, 2, none⟩ = some (.int .i64 y) := by rw [hW, World.cell?_setCell_other _ _ _ _ (by first | (simp; done) | (simp; omega))]; show (w.alloc _).cell? _ = _; simp
  have kf : W.frozen? ⟨t, 2, none⟩ = false := by rw [hW, World.frozen?_setCell]; show (w.alloc _).frozen? _ = _; rw [World.frozen?_alloc_old _ _ _ (by simp; omega)]; exact f2
  clear hW
  have ntn : t ∉ [bn, bm] := by simp; exact ⟨m1, m2⟩
  have m3 := hnW.ne_cell b0
  have m4 := hmW.ne_cell b0
  simp only at m3 m4
  have nbn : w.heap.size ∉ [bn, bm] := by simp; exact ⟨m3, m4⟩
  go_region_held3 (fun w' => w'.cell? ⟨t, 0, none⟩ = some (.map (some bn)) ∧ w'.cell? ⟨t, 1, none⟩ = some (.map (some bm)) ∧ w'.cell? ⟨t, 2, none⟩ = some (.int .i64 (lastc + 1)) ∧ w'.cell? ⟨w.heap.size, 0, none⟩ = some (.int .i64 l) ∧ w'.cell? ⟨w.heap.size, 1, none⟩ = some (.int .i64 x) ∧ w'.cell? ⟨w.heap.size, 2, none⟩ = some (.int .i64 y))
    (first | exact ⟨k0, k1, k2, b0, b1, b2⟩ | exact ⟨hkp.cell k0 ntn, hkp.cell k1 ntn, hkp.cell k2 ntn, hkp.cell b0 nbn, hkp.cell b1 nbn, hkp.cell b2 nbn⟩ | assumption)
    (first
      | (go_at_call 81; refine (put_any (t := t) (bn := bn) (bm := bm) (l := l) (x := x) (y := y) (f := lastc + 1) (w := W.drew) k0 k1 hnW hmW hbb (by unfold Fits; omega) hl hx hy (by omega) (by omega)).mono ?_; rintro e w2 ⟨rfl, hm1, hm2, hkp⟩))
  go_wp2_with fail
  go_ret
  rw [upSz_new HG.out] at hm1
  rw [upSz_new HG2.out] at hm2
  rw [HTT.out]
  exact ⟨rfl, hkp.cell k2 ntn, hkp.cell k0 ntn, hkp.cell k1 ntn, (hkp.frozen (p := ⟨t, 2, none⟩) (cell_lt (w := W) k2) ntn).trans kf, hm1, hm2, (hK.mono (by simp)).trans (((Keeps.refl _ _).drew).trans (hkp.mono (by simp)))⟩

end
end Go.Proofs.Ytmgjegokkbghlaa

namespace Go.Proofs.Ytmgjegokkbghlaa
open Go.RowKit Go.Maps Bdd
attribute [local go_sem ↓] Go.wp_at_zero Go.wp_at_succ

section
variable {w w' : World} {t bn bm n1 n2 : Nat} {A N : Tab} {top l last lastc : Int} {D S P : Int → Prop}

theorem ok_fits (hw : Wf N top last) (hbig : last ≤ 4611686018427387904) {k x : Int} (hx : Ok N k x) : Fits x := by
  have := hw.one
  rcases hx with rfl | rfl | ⟨m, hm, _⟩
  · unfold Fits; omega
  · unfold Fits; omega
  · have := hw.range x m hm; unfold Fits; omega

theorem part_ov (hw : Wf N top last) (h : ExS N A l last lastc D S P) (hD : ∀ f, D f) {x : Int} (hx : Ok N (l + 1) x) (b : Bool) : part (ov A N) x l b = part N x (l + 1) b := by
  by_cases e : AtLv N (l + 1) x
  · obtain ⟨m, hm, hl⟩ := e
    rw [part_at hm hl, part_at (ov_some (h.low1 x m hm hl (hD x))) rfl]
  · rw [part_id e, part_id]
    rintro ⟨m, hm, hl⟩
    cases hA : A x with
    | some m' =>
      rw [ov_some hA] at hm
      cases hm
      have hr := (h.rg x m hA).1
      rcases hx with rfl | rfl | ⟨n, hn, hnl⟩
      · omega
      · omega
      · have : n.lv ≠ l + 1 := fun e' => e ⟨n, hn, e'⟩
        rw [h.other x n hn (by omega) this] at hA
        cases hA
        omega
    | none =>
      rw [ov_none hA] at hm
      rcases hx with rfl | rfl | ⟨n, hn, hnl⟩
      · rw [hw.zero] at hm; cases hm
      · rw [hw.onee] at hm; cases hm
      · rw [hn] at hm; cases hm; omega

set_option maxRecDepth 100000 in
set_option maxHeartbeats 400000 in
theorem branches_raw {M : Tab} (c1 : w.cell? ⟨t, 1, none⟩ = some (.map (some bm))) (hown : MapIs w Try.prog 69 bm n2 (nodesG M)) {f : Int} (hf : Fits f) (l : Int) :
    Calls Try.prog 80 #[.pointer (some ⟨t, 0, none⟩), .int .i64 f, .int .i64 l] w fun e w' => e = .returned (.tuple #[.int .i64 (part M f l false), .int .i64 (part M f l true)]) ∧ Keeps [] w w' := by
  have hkey := keyFn hf
  cases hN : M f with
  | none =>
    have hG : nodesG M (.int .i64 f) = none := by simp [nodesG, hN]
    have hl : ∀ b, part M f l b = f := by simp [part, hN]
    rw [hl, hl]
    clear hl hN
    go_enter Try.func80, Try.ntmps80
    go_wp2_with (first
      | (at_lookup; refine wpList_look_ok _ rfl _ _ 110 rfl 69 115 lawFn Try.underlying110 (zeroNode _) bm n2 (nodesG M) rfl hown (.int .i64 f) _ rfl hkey ?_; rw [hG])
      | go_in)
    go_ret2
    exact ⟨rfl, (Keeps.refl _ _).alloc _⟩
  | some n =>
    have hG : nodesG M (.int .i64 f) = some (nodeV n) := by simp [nodesG, hN]
    unfold nodeV trip at hG
    by_cases e : n.lv = l
    · have hl0 : part M f l false = n.lo := by simp [part, hN, e]
      have hl1 : part M f l true = n.hi := by simp [part, hN, e]
      rw [hl0, hl1]
      have e' : (n.lv == l) = true := by simp [e]
      clear hl0 hl1 hN e
      go_enter Try.func80, Try.ntmps80
      go_wp2_with (first
        | (at_lookup; refine wpList_look_ok _ rfl _ _ 110 rfl 69 115 lawFn Try.underlying110 (zeroNode _) bm n2 (nodesG M) rfl hown (.int .i64 f) _ rfl hkey ?_; rw [hG])
        | go_in)
      go_quiet (fail)
      go_wp2
      go_ret2
      exact ⟨rfl, ((Keeps.refl _ _).alloc _).drewN _⟩
    · have hl : ∀ b, part M f l b = f := by simp [part, hN, e]
      rw [hl, hl]
      have e' : (n.lv == l) = false := by simp [e]
      clear hl hN e
      go_enter Try.func80, Try.ntmps80
      go_wp2_with (first
        | (at_lookup; refine wpList_look_ok _ rfl _ _ 110 rfl 69 115 lawFn Try.underlying110 (zeroNode _) bm n2 (nodesG M) rfl hown (.int .i64 f) _ rfl hkey ?_; rw [hG])
        | go_in)
      go_ret2
      exact ⟨rfl, (Keeps.refl _ _).alloc _⟩

set_option maxRecDepth 100000 in
set_option maxHeartbeats 400000 in
theorem level_raw {M : Tab} (c1 : w.cell? ⟨t, 1, none⟩ = some (.map (some bm))) (hown : MapIs w Try.prog 69 bm n2 (nodesG M)) {f : Int} (hf : Fits f) :
    Calls Try.prog 79 #[.pointer (some ⟨t, 0, none⟩), .int .i64 f] w fun e w' => e = .returned (.int .i64 (lvl M f)) ∧ Keeps [] w w' := by
  have hkey := keyFn hf
  cases hN : M f with
  | none =>
    have hG : nodesG M (.int .i64 f) = none := by simp [nodesG, hN]
    have hl : lvl M f = 9223372036854775807 := by simp [lvl, hN]
    rw [hl]
    clear hl hN
    go_enter Try.func79, Try.ntmps79
    go_wp2_with (first
      | (at_lookup; refine wpList_look_ok _ rfl _ _ 110 rfl 69 115 lawFn Try.underlying110 (zeroNode _) bm n2 (nodesG M) rfl hown (.int .i64 f) _ rfl hkey ?_; rw [hG])
      | go_in)
    go_ret
    exact ⟨rfl, (Keeps.refl _ _).alloc _⟩
  | some n =>
    have hG : nodesG M (.int .i64 f) = some (nodeV n) := by simp [nodesG, hN]
    have hl : lvl M f = n.lv := by simp [lvl, hN]
    rw [hl]
    clear hl hN
    unfold nodeV trip at hG
    go_enter Try.func79, Try.ntmps79
    go_wp2_with (first
      | (at_lookup; refine wpList_look_ok _ rfl _ _ 110 rfl 69 115 lawFn Try.underlying110 (zeroNode _) bm n2 (nodesG M) rfl hown (.int .i64 f) _ rfl hkey ?_; rw [hG])
      | go_in)
    go_ret
    exact ⟨rfl, (Keeps.refl _ _).alloc _⟩

theorem results_cell_mid {P : Program} {fn : Func} {p : Tmp} {ty : TypeId} (h : fn.results = #[.cell p ty]) (tmps : Array Value) (w : World) (g : Nat) (cs : List Value) (d : TypeDesc)
    (hp : tmps.getD p undef = .pointer (some ⟨g, 0, none⟩)) (hc : w.rangeAt g 0 cs) (hu : P.underlying ty = some d) (hd : d.isRow = true) (hi : (P.info? ty).map (·.size) = some cs.length) :
    (results fn tmps).run P w = .ok (.agg cs.toArray) w := by
  have hp' : tmps[p]?.getD undef = .pointer (some ⟨g, 0, none⟩) := by simpa using hp
  simp [results, h, hp', asAddr, run_loadVar_mid w g 0 ty cs d hc hu hd hi]
theorem sizeNode : (Try.prog.info? 115).map (·.size) = some 3 := by kernel_rfl
theorem range3 {w : World} {g : Nat} {a b c : Value} (h0 : w.cell? ⟨g, 0, none⟩ = some a) (h1 : w.cell? ⟨g, 1, none⟩ = some b) (h2 : w.cell? ⟨g, 2, none⟩ = some c) : w.rangeAt g 0 [a, b, c] := by
  intro j v hv
  match j, hv with
  | 0, hv => simp at hv; subst hv; exact h0
  | 1, hv => simp at hv; subst hv; exact h1
  | 2, hv => simp at hv; subst hv; exact h2

/-- join on the way -/
theorem join_x (h : TabX w t bn bm n1 n2 A N lastc) (hw : Wf N top last) (he : ExS N A l last lastc D S P) (hbig : last ≤ 4611686018427387904) (hl0 : 0 ≤ l) (hl1 : l < 8) {x y : Int} (hx : Ok N (l + 2) x) (hy : Ok N (l + 2) y) (hlast : lastc + 1 ≤ 4611686018427387904) (hn1 : n1 < maxLen) (hn2 : n2 < maxLen) :
    Calls Try.prog 74 #[.pointer (some ⟨t, 0, none⟩), trip (l + 1) x y] w fun e w' => ∃ r A' lastc' n1' n2', e = .returned (.int .i64 r) ∧ TabX w' t bn bm n1' n2' A' N lastc' ∧ ExS N A' l last lastc' D S P ∧ Sub A A' ∧ JoinOf A' (l + 1) x y r ∧ Fits r ∧ lastc' ≤ lastc + 1 ∧ n1' ≤ n1 + 1 ∧ n2' ≤ n2 + 1 ∧ Keeps [t, bn, bm] w w' := by
  have fx := ok_fits hw hbig hx
  have fy := ok_fits hw hbig hy
  have fl : Fits (l + 1) := by unfold Fits; omega
  have hone := h.one
  by_cases e : x = y
  · subst e
    refine (join_eq (l + 1) x).mono ?_
    rintro e w' ⟨rfl, hk⟩
    exact ⟨x, A, lastc, n1, n2, rfl, h.keeps hk (by simp) (by simp) (by simp), he, Sub.refl _, Or.inl ⟨rfl, rfl⟩, fx, by omega, by omega, by omega, hk.mono (by simp)⟩
  · by_cases hex : ∃ g, A g = some ⟨l + 1, x, y⟩
    · obtain ⟨g, hg⟩ := hex
      refine (joinX_known h.c0 h.names (namesG_inj h.u hg) fl fx fy e).mono ?_
      rintro e' w' ⟨rfl, hk⟩
      exact ⟨g, A, lastc, n1, n2, rfl, h.keeps hk (by simp) (by simp) (by simp), he, Sub.refl _, Or.inr ⟨e, hg⟩, by have := he.rg g _ hg; have := h.big; unfold Fits; omega, by omega, by omega, by omega, hk.mono (by simp)⟩
    · have hno : ∀ g, A g ≠ some ⟨l + 1, x, y⟩ := fun g hg => hex ⟨g, hg⟩
      have hA : A (lastc + 1) = none := by
        cases hm : A (lastc + 1) with
        | none => rfl
        | some m => have := (he.rg _ m hm).2; omega
      have hNn : N (lastc + 1) = none := by
        cases hm : N (lastc + 1) with
        | none => rfl
        | some m => have := (hw.range _ m hm).2; have := he.le; omega
      refine (joinX_new h.c0 h.c1 h.c2 h.f2 h.names h.nodes h.ne (namesG_none hno) (by simp [nodesG, ov_none hA, hNn]) fl fx fy e hone hlast hn1 hn2).mono ?_
      rintro e' w' ⟨rfl, r2, r0, r1, rf, m1, m2, hk⟩
      exact ⟨lastc + 1, upd A (lastc + 1) ⟨l + 1, x, y⟩, lastc + 1, n1 + 1, n2 + 1, rfl, ⟨r0, r1, r2, rf, m1.congr (fun v _ _ => names_put h.u hA hno v), m2.congr (fun v _ _ => nodes_put (lastc + 1) ⟨l + 1, x, y⟩ v), h.ne, inj_upd h.u hno, hlast, by omega⟩, he.new_put hw hx hy e hno, sub_new hA, Or.inr ⟨e, upd_same _ _ _⟩, by unfold Fits; omega, by omega, by omega, by omega, hk⟩

set_option maxRecDepth 100000 in
set_option maxHeartbeats 1000000 in
theorem cross_any (h : TabX w t bn bm n1 n2 A N lastc) (hw : Wf N top last) (he : ExS N A l last lastc D S P) (hD : ∀ f, D f) (hbig : last ≤ 4611686018427387904) (hl0 : 0 ≤ l) (hl1 : l < 8) {lv x y : Int} (hx : Ok N (l + 1) x) (hy : Ok N (l + 1) y) (hlast : lastc + 2 ≤ 4611686018427387904) (hn1 : n1 + 1 < maxLen) (hn2 : n2 + 1 < maxLen) :
    Calls Try.prog 85 #[.pointer (some ⟨t, 0, none⟩), .int .i64 l, trip lv x y] w fun e w' => ∃ a b A' lastc' n1' n2', e = .returned (trip l a b) ∧ TabX w' t bn bm n1' n2' A' N lastc' ∧ ExS N A' l last lastc' D S P ∧ JoinOf A' (l + 1) (part N x (l + 1) false) (part N y (l + 1) false) a ∧ JoinOf A' (l + 1) (part N x (l + 1) true) (part N y (l + 1) true) b ∧ Fits a ∧ Fits b ∧ lastc' ≤ lastc + 2 ∧ n1' ≤ n1 + 2 ∧ n2' ≤ n2 + 2 ∧ Keeps [t, bn, bm] w w' := by
  have e2 : l + 1 + 1 = l + 2 := by omega
  have p1 : Ok N (l + 2) (part N x (l + 1) false) := e2 ▸ part_ok2 hw hx false
  have p2 : Ok N (l + 2) (part N x (l + 1) true) := e2 ▸ part_ok2 hw hx true
  have p3 : Ok N (l + 2) (part N y (l + 1) false) := e2 ▸ part_ok2 hw hy false
  have p4 : Ok N (l + 2) (part N y (l + 1) true) := e2 ▸ part_ok2 hw hy true
  have fx := ok_fits hw hbig hx
  have fy := ok_fits hw hbig hy
  obtain ⟨W, hW⟩ : ∃ W, W = (w.alloc (Obj.cells #[Value.int IntKind.i64 lv, Value.int IntKind.i64 x, Value.int IntKind.i64 y] 115)).alloc (Obj.cells #[Value.int IntKind.i64 0, Value.int IntKind.i64 0, Value.int IntKind.i64 0] 115) := ⟨_, rfl⟩
  have hkW : Keeps [] w W := by rw [hW]; exact ((Keeps.refl _ _).alloc _).alloc _
  have hW0 := h.keeps hkW (by simp) (by simp) (by simp)
  have b2 : W.cell? ⟨w.heap.size, 2, none⟩ = some (.int .i64 y) := by rw [hW]; exact (((Keeps.refl [] _).alloc _).cell (p := ⟨w.heap.size, 2, none⟩) (by simp) (by simp))
  have hWs : W.heap.size = w.heap.size + 2 := by rw [hW]; simp
  have g0 : W.cell? ⟨w.heap.size + 1, 0, none⟩ = some (.int .i64 0) := by rw [hW]; simp
  have g1 : W.cell? ⟨w.heap.size + 1, 1, none⟩ = some (.int .i64 0) := by rw [hW]; simp
  have g2 : W.cell? ⟨w.heap.size + 1, 2, none⟩ = some (.int .i64 0) := by rw [hW]; simp
  have gf : ∀ i, W.frozen? ⟨w.heap.size + 1, i, none⟩ = false := fun i => by rw [hW]; exact World.frozen?_alloc_at _ _ _ _ (by simp)
  have HW : Hid (W = (w.alloc (Obj.cells #[Value.int IntKind.i64 lv, Value.int IntKind.i64 x, Value.int IntKind.i64 y] 115)).alloc (Obj.cells #[Value.int IntKind.i64 0, Value.int IntKind.i64 0, Value.int IntKind.i64 0] 115)) := hW
  have ltt : t < w.heap.size := cell_lt h.c0
  have ln := h.names.lt
  have lm := h.nodes.lt
  clear hW
  unfold trip
  go_enter Try.func85, Try.ntmps85
  go_wp2_with fail
  rw [← HW.out]
  refine (branches_raw hW0.c1 hW0.nodes fx l).mono ?_
  rintro e w1 ⟨rfl, hk1⟩
  rw [part_ov hw he hD hx, part_ov hw he hD hx]
  have h1 := hW0.keeps hk1 (by simp) (by simp) (by simp)
  have b2' := hk1.cell b2 (by simp)
  go_wp2_with fail
  refine (branches_raw h1.c1 h1.nodes fy l).mono ?_
  rintro e w2 ⟨rfl, hk2⟩
  rw [part_ov hw he hD hy, part_ov hw he hD hy]
  have h2 := h1.keeps hk2 (by simp) (by simp) (by simp)
  have hk12 := hk1.trans hk2
  obtain ⟨x0, hx0⟩ : ∃ x0, x0 = part N x (l + 1) false := ⟨_, rfl⟩
  obtain ⟨x1, hx1⟩ : ∃ x1, x1 = part N x (l + 1) true := ⟨_, rfl⟩
  obtain ⟨y0, hy0⟩ : ∃ y0, y0 = part N y (l + 1) false := ⟨_, rfl⟩
  obtain ⟨y1, hy1⟩ : ∃ y1, y1 = part N y (l + 1) true := ⟨_, rfl⟩
  rw [← hx0, ← hx1, ← hy0, ← hy1]
  rw [← hx0] at p1
  rw [← hx1] at p2
  rw [← hy0] at p3
  rw [← hy1] at p4
  have HX : Hid (x0 = part N x (l + 1) false ∧ x1 = part N x (l + 1) true ∧ y0 = part N y (l + 1) false ∧ y1 = part N y (l + 1) true) := ⟨hx0, hx1, hy0, hy1⟩
  clear hx0 hx1 hy0 hy1
  go_wp2_with fail
  refine (join_x h2 hw he hbig hl0 hl1 p1 p3 (by omega) (by omega) (by omega)).mono ?_
  rintro e w3 ⟨a, A3, lc3, m1, m2, rfl, h3, he3, hs3, ja, fa, hlc3, hm1, hm2, hk3⟩
  go_wp2_with fail
  refine (join_x h3 hw he3 hbig hl0 hl1 p2 p4 (by omega) (by omega) (by omega)).mono ?_
  rintro e w4 ⟨b, A4, lc4, m3, m4, rfl, h4, he4, hs4, jb, fb, hlc4, hm3, hm4, hk4⟩
  have nG : w.heap.size + 1 ∉ [t, bn, bm] := by simp; omega
  have kk : Keeps [t, bn, bm] W w4 := ((hk12.mono (by simp)).trans hk3).trans hk4
  have g0' := kk.cell g0 nG
  have g1' := kk.cell g1 nG
  have g2' := kk.cell g2 nG
  have gf' : ∀ i, w4.frozen? ⟨w.heap.size + 1, i, none⟩ = false := fun i => (kk.frozen (p := ⟨w.heap.size + 1, i, none⟩) (by simp; omega) nG).trans (gf i)
  have gf0 := gf' 0
  have gf1 := gf' 1
  have gf2 := gf' 2
  go_wp2_with fail
  refine bodyPost_ret (results_cell_mid rfl _ _ (w.heap.size + 1) [.int .i64 l, .int .i64 a, .int .i64 b] _ rfl (range3 ?_ ?_ ?_) Try.underlying115 rfl sizeNode) rfl ?_
  · rw [World.cell?_setCell_other _ _ _ _ (by simp), World.cell?_setCell_other _ _ _ _ (by simp)]; exact World.cell?_setCell_same _ _ _ g0'
  · rw [World.cell?_setCell_other _ _ _ _ (by simp)]; refine World.cell?_setCell_same _ _ _ (u := .int .i64 0) ?_; rw [World.cell?_setCell_other _ _ _ _ (by simp)]; exact g1'
  · refine World.cell?_setCell_same _ _ _ (u := .int .i64 0) ?_; rw [World.cell?_setCell_other _ _ _ _ (by simp), World.cell?_setCell_other _ _ _ _ (by simp)]; exact g2'
  · have kz : Keeps [w.heap.size + 1] w4 (((w4.setCell ⟨w.heap.size + 1, 0, none⟩ (.int .i64 l)).setCell ⟨w.heap.size + 1, 1, none⟩ (.int .i64 a)).setCell ⟨w.heap.size + 1, 2, none⟩ (.int .i64 b)) := (((Keeps.refl _ _).setCell _ (Or.inl (by simp)) _).setCell _ (Or.inl (by simp)) _).setCell _ (Or.inl (by simp)) _
    rw [← HX.out.1, ← HX.out.2.1, ← HX.out.2.2.1, ← HX.out.2.2.2]
    exact ⟨a, b, A4, lc4, m3, m4, rfl, h4.keeps kz (by simp; omega) (by simp; omega) (by simp; omega), he4, ja.mono hs4, jb, fa, fb, by omega, by omega, by omega, ((((hkW.mono (S' := [w.heap.size + 1, t, bn, bm]) (by simp)).trans (kk.mono (by simp))).trans (kz.mono (by simp)))).strike (by simp; omega)⟩
end
end Go.Proofs.Ytmgjegokkbghlaa

namespace Go.Proofs.Ytmgjegokkbghlaa
open Go.RowKit Go.Maps Bdd

section
variable {N A : Tab} {top l last lastc : Int} {D S P D' S' P' : Int → Prop}

theorem ExS.congr (h : ExS N A l last lastc D S P) (hD : ∀ f n, N f = some n → n.lv = l + 1 → (D f ↔ D' f)) (hS : ∀ f n, N f = some n → n.lv = l → ¬ Cr N l n → (S f ↔ S' f)) (hP : ∀ f n, N f = some n → n.lv = l → Cr N l n → (P f ↔ P' f)) : ExS N A l last lastc D' S' P' :=
  ⟨h.other, fun f n hn hl hd => h.low1 f n hn hl ((hD f n hn hl).2 hd), fun f n hn hl hd => h.low0 f n hn hl (fun q => hd ((hD f n hn hl).1 q)), fun f n hn hl hc hs => h.sink1 f n hn hl hc ((hS f n hn hl hc).2 hs), fun f n hn hl hc hs => h.sink0 f n hn hl hc (fun q => hs ((hS f n hn hl hc).1 q)),
    fun f n hn hl hc hp => h.cr1 f n hn hl hc ((hP f n hn hl hc).2 hp), fun f n hn hl hc hp => h.cr0 f n hn hl hc (fun q => hp ((hP f n hn hl hc).1 q)), h.new, h.rg, h.le, h.uniq⟩

/-- what is left when both levels are taken out -/
def midB (N : Tab) (l : Int) (f : Int) : Bool := (true && !atB N l f) && !atB N (l + 1) f
theorem ExS.start (hw : Wf N top last) : ExS N (keep N (midB N l)) l last last (fun _ => False) (fun _ => False) (fun _ => False) := by
  have k0 : ∀ f n, N f = some n → n.lv = l ∨ n.lv = l + 1 → keep N (midB N l) f = none := by
    intro f n hn hl
    unfold keep
    rw [if_neg]
    simp only [midB, atB, hn]
    rcases hl with e | e <;> simp [e]
  refine ⟨fun f n hn h1 h2 => ?_, fun _ _ _ _ h => h.elim, fun f n hn h1 _ => k0 f n hn (Or.inr h1), fun _ _ _ _ _ h => h.elim, fun f n hn h1 _ _ => k0 f n hn (Or.inl h1), fun _ _ _ _ _ h => h.elim, fun f n hn h1 _ _ => k0 f n hn (Or.inl h1), fun f m hm hn => ?_, fun f m hm => hw.range f m (keep_some.1 hm).2, Int.le_refl _, fun f g m hf hg => hw.uniq f g m (keep_some.1 hf).2 (keep_some.1 hg).2⟩
  · exact keep_some.2 ⟨by simp [midB, atB, hn, h1, h2], hn⟩
  · rw [(keep_some.1 hm).2] at hn; cases hn
theorem ov_start : ov (keep N (midB N l)) N = N := by
  funext f
  unfold ov keep
  split
  · rename_i m hm
    split at hm
    · exact hm.symm
    · cases hm
  · rfl
theorem ExS.total (h : ExS N A l last lastc D S P) (hD : ∀ f, D f) (hS : ∀ f, S f) (hP : ∀ f, AtLv N l f → P f) : ov A N = A := by
  funext f
  cases hA : A f with
  | some m => exact ov_some hA
  | none =>
    rw [ov_none hA]
    cases hn : N f with
    | none => rfl
    | some n =>
      exfalso
      by_cases e1 : n.lv = l
      · by_cases ec : Cr N l n
        · obtain ⟨a, b, q, _⟩ := h.cr1 f n hn e1 ec (hP f ⟨n, hn, e1⟩)
          rw [q] at hA; cases hA
        · rw [h.sink1 f n hn e1 ec (hS f)] at hA; cases hA
      · by_cases e2 : n.lv = l + 1
        · rw [h.low1 f n hn e2 (hD f)] at hA; cases hA
        · rw [h.other f n hn e1 e2] at hA; cases hA
theorem ExS.fits (_hw : Wf N top last) (hbig : lastc ≤ 4611686018427387904) (hwA : Wf A top lastc) : ∀ f m, A f = some m → Fits f ∧ Fits m.lv ∧ Fits m.lo ∧ Fits m.hi := hwA.fitsN hbig

/-- the level of a part, on the way -/
theorem lvl_ov (hw : Wf N top last) (h : ExS N A l last lastc D S P) (hD : ∀ f n, N f = some n → n.lv = l + 1 → D f) (hl1 : l < 8) {x : Int} (hx : Ok N (l + 1) x) : lvl (ov A N) x = l ↔ AtLv N (l + 1) x := by
  constructor
  · intro e
    rcases hx with rfl | rfl | ⟨n, hn, hnl⟩
    · exfalso
      have hA : A 0 = none := by
        cases hm : A 0 with
        | none => rfl
        | some m => have := (h.rg 0 m hm).1; omega
      rw [lvl, ov_none hA, hw.zero] at e
      simp only at e
      omega
    · exfalso
      have hA : A 1 = none := by
        cases hm : A 1 with
        | none => rfl
        | some m => have := (h.rg 1 m hm).1; omega
      rw [lvl, ov_none hA, hw.onee] at e
      simp only at e
      omega
    · by_cases e2 : n.lv = l + 1
      · exact ⟨n, hn, e2⟩
      · exfalso
        rw [lvl, ov_some (h.other x n hn (by omega) e2)] at e
        simp only at e
        omega
  · rintro ⟨n, hn, hl⟩
    rw [lvl, ov_some (h.low1 x n hn hl (hD x n hn hl))]
end
end Go.Proofs.Ytmgjegokkbghlaa
