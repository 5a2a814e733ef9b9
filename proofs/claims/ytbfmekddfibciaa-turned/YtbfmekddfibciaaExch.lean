/- Two neighbouring levels exchanged: plain mathematics. -/
import Derived.Test.YtbfmekddfibciaaOrder
namespace Go.Proofs.Ytbfmekddfibciaa
open Go.RowKit Go.Maps Bdd

/-- the one function of a node -/
def JoinOf (A : Tab) (k x y r : Int) : Prop := (x = y ∧ r = x) ∨ (x ≠ y ∧ A r = some ⟨k, x, y⟩)
/-- does a function ask first at this level? -/
def AtLv (N : Tab) (k x : Int) : Prop := ∃ m, N x = some m ∧ m.lv = k
/-- does a node's part ask at the next level? -/
def Cr (N : Tab) (l : Int) (n : Nd) : Prop := AtLv N (l + 1) n.lo ∨ AtLv N (l + 1) n.hi

/-- ON THE WAY: A has what is found by now; D: the lower ones that are done, S: those that sink, P: those that cross. -/
structure ExS (N A : Tab) (l last lastc : Int) (D S P : Int → Prop) : Prop where
  other : ∀ f n, N f = some n → n.lv ≠ l → n.lv ≠ l + 1 → A f = some n
  low1 : ∀ f n, N f = some n → n.lv = l + 1 → D f → A f = some ⟨l, n.lo, n.hi⟩
  low0 : ∀ f n, N f = some n → n.lv = l + 1 → ¬ D f → A f = none
  sink1 : ∀ f n, N f = some n → n.lv = l → ¬ Cr N l n → S f → A f = some ⟨l + 1, n.lo, n.hi⟩
  sink0 : ∀ f n, N f = some n → n.lv = l → ¬ Cr N l n → ¬ S f → A f = none
  cr1 : ∀ f n, N f = some n → n.lv = l → Cr N l n → P f → ∃ a b, A f = some ⟨l, a, b⟩ ∧ JoinOf A (l + 1) (part N n.lo (l + 1) false) (part N n.hi (l + 1) false) a ∧ JoinOf A (l + 1) (part N n.lo (l + 1) true) (part N n.hi (l + 1) true) b
  cr0 : ∀ f n, N f = some n → n.lv = l → Cr N l n → ¬ P f → A f = none
  new : ∀ f m, A f = some m → N f = none → last < f ∧ m.lv = l + 1 ∧ m.lo ≠ m.hi ∧ Ok N (l + 2) m.lo ∧ Ok N (l + 2) m.hi
  rg : ∀ f m, A f = some m → 2 ≤ f ∧ f ≤ lastc
  le : last ≤ lastc
  uniq : ∀ f g m, A f = some m → A g = some m → f = g

section
variable {N A : Tab} {top l last lastc : Int} {D S P : Int → Prop}

theorem ExS.cases (h : ExS N A l last lastc D S P) {g : Int} {m : Nd} (hm : A g = some m) :
    (N g = none ∧ last < g ∧ m.lv = l + 1 ∧ m.lo ≠ m.hi ∧ Ok N (l + 2) m.lo ∧ Ok N (l + 2) m.hi) ∨ ∃ n, N g = some n ∧
      ((n.lv ≠ l ∧ n.lv ≠ l + 1 ∧ m = n) ∨ (n.lv = l + 1 ∧ D g ∧ m = ⟨l, n.lo, n.hi⟩) ∨ (n.lv = l ∧ ¬ Cr N l n ∧ S g ∧ m = ⟨l + 1, n.lo, n.hi⟩) ∨
       (n.lv = l ∧ Cr N l n ∧ P g ∧ ∃ a b, m = ⟨l, a, b⟩ ∧ JoinOf A (l + 1) (part N n.lo (l + 1) false) (part N n.hi (l + 1) false) a ∧ JoinOf A (l + 1) (part N n.lo (l + 1) true) (part N n.hi (l + 1) true) b)) := by
  cases hn : N g with
  | none =>
    exact Or.inl ⟨rfl, h.new g m hm hn⟩
  | some n =>
    refine Or.inr ⟨n, rfl, ?_⟩
    by_cases e1 : n.lv = l
    · by_cases ec : Cr N l n
      · by_cases ep : P g
        · obtain ⟨a, b, h1, h2, h3⟩ := h.cr1 g n hn e1 ec ep
          rw [h1] at hm
          cases hm
          exact Or.inr (Or.inr (Or.inr ⟨e1, ec, ep, a, b, rfl, h2, h3⟩))
        · rw [h.cr0 g n hn e1 ec ep] at hm; cases hm
      · by_cases es : S g
        · rw [h.sink1 g n hn e1 ec es] at hm; cases hm
          exact Or.inr (Or.inr (Or.inl ⟨e1, ec, es, rfl⟩))
        · rw [h.sink0 g n hn e1 ec es] at hm; cases hm
    · by_cases e2 : n.lv = l + 1
      · by_cases ed : D g
        · rw [h.low1 g n hn e2 ed] at hm; cases hm
          exact Or.inr (Or.inl ⟨e2, ed, rfl⟩)
        · rw [h.low0 g n hn e2 ed] at hm; cases hm
      · rw [h.other g n hn e1 e2] at hm; cases hm
        exact Or.inl ⟨e1, e2, rfl⟩

theorem ok_drop (_hw : Wf N top last) {k x : Int} (hx : Ok N k x) (hne : ¬ AtLv N k x) : Ok N (k + 1) x := by
  rcases hx with h | h | ⟨n, hn, hl⟩
  · exact Or.inl h
  · exact Or.inr (Or.inl h)
  · refine Or.inr (Or.inr ⟨n, hn, ?_⟩)
    have : n.lv ≠ k := fun e => hne ⟨n, hn, e⟩
    omega
theorem part_ok2 (hw : Wf N top last) {k x : Int} (hx : Ok N k x) (b : Bool) : Ok N (k + 1) (part N x k b) := by
  by_cases e : AtLv N k x
  · obtain ⟨m, hm, hl⟩ := e
    have h1 := hw.lo x m hm
    have h2 := hw.hi x m hm
    rw [hl] at h1 h2
    unfold part
    rw [hm]
    simp only [hl, if_true]
    cases b
    · exact h1
    · exact h2
  · have h1 := ok_drop hw hx e
    have : part N x k b = x := by
      unfold part
      split
      · rename_i n hn
        rw [if_neg (fun e' => e ⟨n, hn, e'⟩)]
      · rfl
    rw [this]
    exact h1
theorem part_id {k x : Int} {b : Bool} (e : ¬ AtLv N k x) : part N x k b = x := by
  unfold part
  split
  · rename_i n hn
    rw [if_neg (fun e' => e ⟨n, hn, e'⟩)]
  · rfl
theorem part_at {k x : Int} {m : Nd} {b : Bool} (hm : N x = some m) (hl : m.lv = k) : part N x k b = if b then m.hi else m.lo := by
  unfold part
  rw [hm]
  simp only [hl, if_true]
/-- two parts tell the function -/
theorem part_inj (hw : Wf N top last) {k x y : Int} (h0 : part N x k false = part N y k false) (h1 : part N x k true = part N y k true) : x = y := by
  by_cases ex : AtLv N k x
  · obtain ⟨m, hm, hl⟩ := ex
    have hne := hw.ne x m hm
    rw [part_at hm hl] at h0 h1
    simp only [Bool.false_eq_true, if_false, if_true] at h0 h1
    by_cases ey : AtLv N k y
    · obtain ⟨m', hm', hl'⟩ := ey
      rw [part_at hm' hl'] at h0 h1
      simp only [Bool.false_eq_true, if_false, if_true] at h0 h1
      have : m = m' := by cases m; cases m'; simp_all
      subst this
      exact hw.uniq x y m hm hm'
    · rw [part_id ey] at h0 h1
      exact absurd (h0.trans h1.symm) hne
  · rw [part_id ex] at h0 h1
    by_cases ey : AtLv N k y
    · obtain ⟨m', hm', hl'⟩ := ey
      have hne := hw.ne y m' hm'
      rw [part_at hm' hl'] at h0 h1
      simp only [Bool.false_eq_true, if_false, if_true] at h0 h1
      exact absurd (h0.symm.trans h1) hne
    · rw [part_id ey] at h0
      exact h0

/-- what is found at the level below is none of what lies deeper -/
theorem ExS.deep (_hw : Wf N top last) (h : ExS N A l last lastc D S P) {x r : Int} {m : Nd} (hx : Ok N (l + 2) x) (hm : A r = some m) (hl : m.lv = l + 1 ∨ m.lv = l) : r ≠ x := by
  rintro rfl
  rcases hx with rfl | rfl | ⟨n, hn, hn2⟩
  · have := (h.rg 0 m hm).1; omega
  · have := (h.rg 1 m hm).1; omega
  · rw [h.other r n hn (by omega) (by omega)] at hm
    cases hm
    omega
/-- join tells its parts -/
theorem ExS.join_inj (hw : Wf N top last) (h : ExS N A l last lastc D S P) {x y x' y' r : Int} (hx : Ok N (l + 2) x) (hx' : Ok N (l + 2) x') (h1 : JoinOf A (l + 1) x y r) (h2 : JoinOf A (l + 1) x' y' r) : x = x' ∧ y = y' := by
  rcases h1 with ⟨e1, e2⟩ | ⟨e1, e2⟩ <;> rcases h2 with ⟨e3, e4⟩ | ⟨e3, e4⟩
  · exact ⟨e2.symm.trans e4, by rw [← e1, ← e3]; exact e2.symm.trans e4⟩
  · exact absurd e2 (h.deep hw hx e4 (Or.inl rfl))
  · exact absurd e4 (h.deep hw hx' e2 (Or.inl rfl))
  · rw [e2] at e4
    cases e4
    exact ⟨rfl, rfl⟩
theorem JoinOf.mono {A A' : Tab} {k x y r : Int} (h : JoinOf A k x y r) (hs : Sub A A') : JoinOf A' k x y r := by
  rcases h with h | ⟨h1, h2⟩
  · exact Or.inl h
  · exact Or.inr ⟨h1, hs _ _ h2⟩

theorem inj_upd {f : Int} {m : Nd} (h : ∀ f g m, A f = some m → A g = some m → f = g) (hfr : ∀ g, A g ≠ some m) : ∀ f' g' m', upd A f m f' = some m' → upd A f m g' = some m' → f' = g' := by
  intro f' g' m' h1 h2
  by_cases e1 : f' = f <;> by_cases e2 : g' = f
  · rw [e1, e2]
  · rw [e1, upd_same] at h1; rw [upd_other _ e2] at h2; cases h1; exact absurd h2 (hfr g')
  · rw [e2, upd_same] at h2; rw [upd_other _ e1] at h1; cases h2; exact absurd h1 (hfr f')
  · rw [upd_other _ e1] at h1; rw [upd_other _ e2] at h2; exact h f' g' m' h1 h2
theorem sub_new {f : Int} {m : Nd} (hf : A f = none) : Sub A (upd A f m) := by
  intro g n hg
  rw [upd_other _ (fun e => by rw [e, hf] at hg; cases hg)]; exact hg

/-- the lower level comes up -/
theorem ExS.low_new (hw : Wf N top last) (h : ExS N A l last last D S (fun _ => False)) {f : Int} {n : Nd} (hn : N f = some n) (hl : n.lv = l + 1) (hD : ¬ D f) : ∀ g, A g ≠ some ⟨l, n.lo, n.hi⟩ := by
  intro g hg
  rcases h.cases hg with ⟨_, h1, _⟩ | ⟨n', hn', h1 | h1 | h1 | h1⟩
  · have := (h.rg g _ hg).2; omega
  · obtain ⟨q1, q2, q3⟩ := h1
    rw [← q3] at q1
    exact q1 rfl
  · obtain ⟨q1, q2, q3⟩ := h1
    have : n = n' := by cases n; cases n'; simp_all
    subst this
    have := hw.uniq f g n hn hn'
    rw [this] at hD
    exact hD q2
  · obtain ⟨q1, q2, q3, q4⟩ := h1
    simp at q4
    omega
  · exact h1.2.2.1
theorem ExS.low_put (hw : Wf N top last) (h : ExS N A l last last D S (fun _ => False)) {f : Int} {n : Nd} (hn : N f = some n) (hl : n.lv = l + 1) (hD : ¬ D f) : ExS N (upd A f ⟨l, n.lo, n.hi⟩) l last last (fun g => D g ∨ g = f) S (fun _ => False) := by
  have hfr := h.low_new hw hn hl hD
  have hf0 := h.low0 f n hn hl hD
  have oth : ∀ g, g ≠ f → upd A f ⟨l, n.lo, n.hi⟩ g = A g := fun g hg => upd_other _ hg
  have dif : ∀ g m, N g = some m → m.lv ≠ l + 1 → g ≠ f := fun g m hg hm e => by rw [e, hn] at hg; cases hg; exact hm hl
  refine ⟨fun g m hg h1 h2 => by rw [oth g (dif g m hg h2)]; exact h.other g m hg h1 h2, fun g m hg h1 h2 => ?_, fun g m hg h1 h2 => ?_, fun g m hg h1 => by rw [oth g (dif g m hg (by omega))]; exact h.sink1 g m hg h1, fun g m hg h1 => by rw [oth g (dif g m hg (by omega))]; exact h.sink0 g m hg h1, fun g m hg h1 h2 h3 => h3.elim, fun g m hg h1 => by rw [oth g (dif g m hg (by omega))]; exact h.cr0 g m hg h1, fun g m hg h1 => ?_, fun g m hg => ?_, h.le, inj_upd h.uniq hfr⟩
  · by_cases e : g = f
    · subst e; rw [hn] at hg; cases hg; exact upd_same _ _ _
    · rw [oth g e]; exact h.low1 g m hg h1 (h2.resolve_right e)
  · have e : g ≠ f := fun e => h2 (Or.inr e)
    rw [oth g e]; exact h.low0 g m hg h1 (fun q => h2 (Or.inl q))
  · have e : g ≠ f := fun e => by rw [e, hn] at h1; cases h1
    rw [oth g e] at hg; exact h.new g m hg h1
  · by_cases e : g = f
    · subst e; exact hw.range g n hn
    · rw [oth g e] at hg; exact h.rg g m hg

/-- a node of the upper level sinks -/
theorem ExS.sink_new (hw : Wf N top last) (h : ExS N A l last last D S (fun _ => False)) {f : Int} {n : Nd} (hn : N f = some n) (hl : n.lv = l) (hS : ¬ S f) : ∀ g, A g ≠ some ⟨l + 1, n.lo, n.hi⟩ := by
  intro g hg
  rcases h.cases hg with ⟨_, h1, _⟩ | ⟨n', hn', h1 | h1 | h1 | h1⟩
  · have := (h.rg g _ hg).2; omega
  · obtain ⟨q1, q2, q3⟩ := h1
    rw [← q3] at q2
    exact q2 rfl
  · obtain ⟨q1, q2, q3⟩ := h1
    simp at q3
    omega
  · obtain ⟨q1, q2, q3, q4⟩ := h1
    have : n = n' := by cases n; cases n'; simp_all
    subst this
    have := hw.uniq f g n hn hn'
    rw [this] at hS
    exact hS q3
  · exact h1.2.2.1
theorem ExS.sink_put (hw : Wf N top last) (h : ExS N A l last last D S (fun _ => False)) {f : Int} {n : Nd} (hn : N f = some n) (hl : n.lv = l) (hc : ¬ Cr N l n) (hS : ¬ S f) : ExS N (upd A f ⟨l + 1, n.lo, n.hi⟩) l last last D (fun g => S g ∨ g = f) (fun _ => False) := by
  have hfr := h.sink_new hw hn hl hS
  have hf0 := h.sink0 f n hn hl hc hS
  have oth : ∀ g, g ≠ f → upd A f ⟨l + 1, n.lo, n.hi⟩ g = A g := fun g hg => upd_other _ hg
  have dif : ∀ g m, N g = some m → m.lv ≠ l → g ≠ f := fun g m hg hm e => by rw [e, hn] at hg; cases hg; exact hm hl
  refine ⟨fun g m hg h1 h2 => by rw [oth g (dif g m hg h1)]; exact h.other g m hg h1 h2, fun g m hg h1 => by rw [oth g (dif g m hg (by omega))]; exact h.low1 g m hg h1, fun g m hg h1 => by rw [oth g (dif g m hg (by omega))]; exact h.low0 g m hg h1, fun g m hg h1 h2 h3 => ?_, fun g m hg h1 h2 h3 => ?_, fun g m hg h1 h2 h3 => h3.elim, fun g m hg h1 h2 h3 => ?_, fun g m hg h1 => ?_, fun g m hg => ?_, h.le, inj_upd h.uniq hfr⟩
  · by_cases e : g = f
    · subst e; rw [hn] at hg; cases hg; exact upd_same _ _ _
    · rw [oth g e]; exact h.sink1 g m hg h1 h2 (h3.resolve_right e)
  · have e : g ≠ f := fun e => h3 (Or.inr e)
    rw [oth g e]; exact h.sink0 g m hg h1 h2 (fun q => h3 (Or.inl q))
  · have e : g ≠ f := fun e => by subst e; rw [hn] at hg; cases hg; exact hc h2
    rw [oth g e]; exact h.cr0 g m hg h1 h2 h3
  · have e : g ≠ f := fun e => by rw [e, hn] at h1; cases h1
    rw [oth g e] at hg; exact h.new g m hg h1
  · by_cases e : g = f
    · subst e; exact hw.range g n hn
    · rw [oth g e] at hg; exact h.rg g m hg
/-- a node that crosses is passed by at first -/
theorem ExS.sink_skip (h : ExS N A l last last D S (fun _ => False)) {f : Int} {n : Nd} (hn : N f = some n) (hc : Cr N l n) : ExS N A l last last D (fun g => S g ∨ g = f) (fun _ => False) := by
  refine ⟨h.other, h.low1, h.low0, fun g m hg h1 h2 h3 => ?_, fun g m hg h1 h2 h3 => h.sink0 g m hg h1 h2 (fun q => h3 (Or.inl q)), fun g m hg h1 h2 h3 => h3.elim, h.cr0, h.new, h.rg, h.le, h.uniq⟩
  refine h.sink1 g m hg h1 h2 (h3.resolve_right (fun e => ?_))
  subst e; rw [hn] at hg; cases hg; exact h2 hc

/-- a new node of the level below -/
theorem ExS.new_put (hw : Wf N top last) (h : ExS N A l last lastc D S P) {x y : Int} (hx : Ok N (l + 2) x) (hy : Ok N (l + 2) y) (hne : x ≠ y) (hno : ∀ g, A g ≠ some ⟨l + 1, x, y⟩) : ExS N (upd A (lastc + 1) ⟨l + 1, x, y⟩) l last (lastc + 1) D S P := by
  have hA : A (lastc + 1) = none := by
    cases hm : A (lastc + 1) with
    | none => rfl
    | some m => have := (h.rg _ m hm).2; omega
  have hNn : N (lastc + 1) = none := by
    cases hm : N (lastc + 1) with
    | none => rfl
    | some m => have := (hw.range _ m hm).2; have := h.le; omega
  have dif : ∀ g m, N g = some m → g ≠ lastc + 1 := fun g m hg e => by rw [e, hNn] at hg; cases hg
  have hs := sub_new (m := ⟨l + 1, x, y⟩) hA
  have oth : ∀ g, g ≠ lastc + 1 → upd A (lastc + 1) ⟨l + 1, x, y⟩ g = A g := fun g hg => upd_other _ hg
  have hone := hw.one
  refine ⟨fun g m hg h1 h2 => hs _ _ (h.other g m hg h1 h2), fun g m hg h1 h2 => hs _ _ (h.low1 g m hg h1 h2), fun g m hg h1 h2 => by rw [oth g (dif g m hg)]; exact h.low0 g m hg h1 h2, fun g m hg h1 h2 h3 => hs _ _ (h.sink1 g m hg h1 h2 h3), fun g m hg h1 h2 h3 => by rw [oth g (dif g m hg)]; exact h.sink0 g m hg h1 h2 h3, fun g m hg h1 h2 h3 => ?_, fun g m hg h1 h2 h3 => by rw [oth g (dif g m hg)]; exact h.cr0 g m hg h1 h2 h3, fun g m hg h1 => ?_, fun g m hg => ?_, by have := h.le; omega, inj_upd h.uniq hno⟩
  · obtain ⟨a, b, q1, q2, q3⟩ := h.cr1 g m hg h1 h2 h3
    exact ⟨a, b, hs _ _ q1, q2.mono hs, q3.mono hs⟩
  · by_cases e : g = lastc + 1
    · subst e; rw [upd_same] at hg; cases hg; exact ⟨by have := h.le; omega, rfl, hne, hx, hy⟩
    · rw [oth g e] at hg; exact h.new g m hg h1
  · by_cases e : g = lastc + 1
    · have := h.le; omega
    · rw [oth g e] at hg; have := h.rg g m hg; omega

/-- a node crosses -/
theorem ExS.cr_new (hw : Wf N top last) (h : ExS N A l last lastc D S P) {f : Int} {n : Nd} (hn : N f = some n) (hl : n.lv = l) (hc : Cr N l n) (hP : ¬ P f) {a b : Int}
    (ja : JoinOf A (l + 1) (part N n.lo (l + 1) false) (part N n.hi (l + 1) false) a) (jb : JoinOf A (l + 1) (part N n.lo (l + 1) true) (part N n.hi (l + 1) true) b) : ∀ g, A g ≠ some ⟨l, a, b⟩ := by
  have hlo := hw.lo f n hn
  have hhi := hw.hi f n hn
  rw [hl] at hlo hhi
  have e2 : l + 1 + 1 = l + 2 := by omega
  have plo : ∀ v, Ok N (l + 2) (part N n.lo (l + 1) v) := fun v => e2 ▸ part_ok2 hw hlo v
  intro g hg
  rcases h.cases hg with ⟨_, _, h1, _⟩ | ⟨n', hn', h1 | h1 | h1 | h1⟩
  · simp at h1; omega
  · obtain ⟨q1, q2, q3⟩ := h1
    rw [← q3] at q1
    exact q1 rfl
  · obtain ⟨q1, q2, q3⟩ := h1
    simp only [Nd.mk.injEq, true_and] at q3
    obtain ⟨qa, qb⟩ := q3
    have hlo' := hw.lo g n' hn'
    have hhi' := hw.hi g n' hn'
    rw [q1, e2] at hlo' hhi'
    have ka : part N n.lo (l + 1) false = part N n.hi (l + 1) false := by
      rcases ja with ⟨r1, _⟩ | ⟨_, r2⟩
      · exact r1
      · exact absurd qa (h.deep hw hlo' r2 (Or.inl rfl))
    have kb : part N n.lo (l + 1) true = part N n.hi (l + 1) true := by
      rcases jb with ⟨r1, _⟩ | ⟨_, r2⟩
      · exact r1
      · exact absurd qb (h.deep hw hhi' r2 (Or.inl rfl))
    exact hw.ne f n hn (part_inj hw ka kb)
  · obtain ⟨q1, q2, q3, q4⟩ := h1
    simp only [Nd.mk.injEq] at q4
    omega
  · obtain ⟨q1, q2, q3, a', b', q4, ja', jb'⟩ := h1
    simp only [Nd.mk.injEq, true_and] at q4
    obtain ⟨qa, qb⟩ := q4
    subst qa qb
    have hlo' := hw.lo g n' hn'
    rw [q1] at hlo'
    have plo' : ∀ v, Ok N (l + 2) (part N n'.lo (l + 1) v) := fun v => e2 ▸ part_ok2 hw hlo' v
    obtain ⟨r1, r2⟩ := h.join_inj hw (plo false) (plo' false) ja ja'
    obtain ⟨r3, r4⟩ := h.join_inj hw (plo true) (plo' true) jb jb'
    have hlo2 := part_inj hw r1 r3
    have hhi2 := part_inj hw r2 r4
    have : n = n' := by cases n; cases n'; simp_all
    subst this
    rw [hw.uniq f g n hn hn'] at hP
    exact hP q3
theorem ExS.cr_put (hw : Wf N top last) (h : ExS N A l last lastc D S P) {f : Int} {n : Nd} (hn : N f = some n) (hl : n.lv = l) (hc : Cr N l n) (hP : ¬ P f) {a b : Int}
    (ja : JoinOf A (l + 1) (part N n.lo (l + 1) false) (part N n.hi (l + 1) false) a) (jb : JoinOf A (l + 1) (part N n.lo (l + 1) true) (part N n.hi (l + 1) true) b) : ExS N (upd A f ⟨l, a, b⟩) l last lastc D S (fun g => P g ∨ g = f) := by
  have hfr := h.cr_new hw hn hl hc hP ja jb
  have hf0 := h.cr0 f n hn hl hc hP
  have hs := sub_new (m := ⟨l, a, b⟩) hf0
  have oth : ∀ g, g ≠ f → upd A f ⟨l, a, b⟩ g = A g := fun g hg => upd_other _ hg
  have dif : ∀ g m, N g = some m → m.lv ≠ l → g ≠ f := fun g m hg hm e => by rw [e, hn] at hg; cases hg; exact hm hl
  have dif2 : ∀ g m, N g = some m → ¬ Cr N l m → g ≠ f := fun g m hg hm e => by rw [e, hn] at hg; cases hg; exact hm hc
  refine ⟨fun g m hg h1 h2 => hs _ _ (h.other g m hg h1 h2), fun g m hg h1 h2 => hs _ _ (h.low1 g m hg h1 h2), fun g m hg h1 h2 => by rw [oth g (dif g m hg (by omega))]; exact h.low0 g m hg h1 h2, fun g m hg h1 h2 h3 => hs _ _ (h.sink1 g m hg h1 h2 h3), fun g m hg h1 h2 h3 => by rw [oth g (dif2 g m hg h2)]; exact h.sink0 g m hg h1 h2 h3, fun g m hg h1 h2 h3 => ?_, fun g m hg h1 h2 h3 => ?_, fun g m hg h1 => ?_, fun g m hg => ?_, h.le, inj_upd h.uniq hfr⟩
  · by_cases e : g = f
    · subst e; rw [hn] at hg; cases hg; exact ⟨a, b, upd_same _ _ _, ja.mono hs, jb.mono hs⟩
    · obtain ⟨a', b', q1, q2, q3⟩ := h.cr1 g m hg h1 h2 (h3.resolve_right e)
      exact ⟨a', b', hs _ _ q1, q2.mono hs, q3.mono hs⟩
  · have e : g ≠ f := fun e => h3 (Or.inr e)
    rw [oth g e]; exact h.cr0 g m hg h1 h2 (fun q => h3 (Or.inl q))
  · have e : g ≠ f := fun e => by rw [e, hn] at h1; cases h1
    rw [oth g e] at hg; exact h.new g m hg h1
  · by_cases e : g = f
    · subst e; have := hw.range g n hn; have := h.le; omega
    · rw [oth g e] at hg; exact h.rg g m hg

/-! ### all done -/
theorem ExS.ok (_hl0 : 0 ≤ l) (h : ExS N A l last lastc D S P) (hD : ∀ f, D f) (hS : ∀ f, S f) (hP : ∀ f, AtLv N l f → P f) {j x : Int} (hx : Ok N j x) (hj : j ≤ l ∨ l + 2 ≤ j) : Ok A j x := by
  rcases hx with hx | hx | ⟨n, hn, hl⟩
  · exact Or.inl hx
  · exact Or.inr (Or.inl hx)
  · by_cases e1 : n.lv = l
    · by_cases ec : Cr N l n
      · obtain ⟨a, b, q, _⟩ := h.cr1 x n hn e1 ec (hP x ⟨n, hn, e1⟩)
        exact Or.inr (Or.inr ⟨_, q, by simp; omega⟩)
      · exact Or.inr (Or.inr ⟨_, h.sink1 x n hn e1 ec (hS x), by simp; omega⟩)
    · by_cases e2 : n.lv = l + 1
      · exact Or.inr (Or.inr ⟨_, h.low1 x n hn e2 (hD x), by simp; omega⟩)
      · exact Or.inr (Or.inr ⟨n, h.other x n hn e1 e2, hl⟩)
theorem ExS.wf (hw : Wf N top last) (hl0 : 0 ≤ l) (hl1 : l + 1 < top) (h : ExS N A l last lastc D S P) (hD : ∀ f, D f) (hS : ∀ f, S f) (hP : ∀ f, AtLv N l f → P f) : Wf A top lastc := by
  have okk : ∀ {j x : Int}, Ok N j x → (j ≤ l ∨ l + 2 ≤ j) → Ok A j x := fun hx hj => h.ok hl0 hD hS hP hx hj
  have e2 : l + 1 + 1 = l + 2 := by omega
  have jo : ∀ {x y r : Int}, Ok N (l + 2) x → JoinOf A (l + 1) x y r → Ok A (l + 1) r := by
    intro x y r hx hj
    rcases hj with ⟨_, rfl⟩ | ⟨_, q⟩
    · exact (okk hx (Or.inr (by omega))).mono (by omega)
    · exact ok_node q
  refine ⟨h.rg, fun f m hm => ?_, fun f m hm => ?_, fun f m hm => ?_, fun f m hm => ?_, h.uniq, by have := hw.one; have := h.le; omega, hw.tops⟩
  · rcases h.cases hm with ⟨_, _, q, _⟩ | ⟨n, hn, ⟨_, _, rfl⟩ | ⟨_, _, rfl⟩ | ⟨_, _, _, rfl⟩ | ⟨_, _, _, a, b, rfl, _⟩⟩
    · omega
    · exact hw.lv f m hn
    · simp; omega
    · simp; omega
    · simp; omega
  · rcases h.cases hm with ⟨_, _, q, _, q1, q2⟩ | ⟨n, hn, ⟨q1, q2, rfl⟩ | ⟨q1, _, rfl⟩ | ⟨q1, q2, _, rfl⟩ | ⟨q1, _, _, a, b, rfl, ja, jb⟩⟩
    · rw [q, e2]; exact okk q1 (Or.inr (by omega))
    · exact okk (hw.lo f m hn) (by omega)
    · have := hw.lo f n hn
      rw [q1, e2] at this
      exact (okk this (Or.inr (by omega))).mono (by simp)
    · have := hw.lo f n hn
      rw [q1] at this
      have := ok_drop hw this (fun q => q2 (Or.inl q))
      exact okk this (Or.inr (by simp; omega))
    · have := hw.lo f n hn
      rw [q1] at this
      exact jo (e2 ▸ part_ok2 hw this false) ja
  · rcases h.cases hm with ⟨_, _, q, _, q1, q2⟩ | ⟨n, hn, ⟨q1, q2, rfl⟩ | ⟨q1, _, rfl⟩ | ⟨q1, q2, _, rfl⟩ | ⟨q1, _, _, a, b, rfl, ja, jb⟩⟩
    · rw [q, e2]; exact okk q2 (Or.inr (by omega))
    · exact okk (hw.hi f m hn) (by omega)
    · have := hw.hi f n hn
      rw [q1, e2] at this
      exact (okk this (Or.inr (by omega))).mono (by simp)
    · have := hw.hi f n hn
      rw [q1] at this
      have := ok_drop hw this (fun q => q2 (Or.inr q))
      exact okk this (Or.inr (by simp; omega))
    · have := hw.lo f n hn
      rw [q1] at this
      exact jo (e2 ▸ part_ok2 hw this true) jb
  · rcases h.cases hm with ⟨_, _, q, q0, q1, q2⟩ | ⟨n, hn, ⟨q1, q2, rfl⟩ | ⟨q1, _, rfl⟩ | ⟨q1, q2, _, rfl⟩ | ⟨q1, qc, _, a, b, rfl, ja, jb⟩⟩
    · exact q0
    · exact hw.ne f m hn
    · exact hw.ne f n hn
    · exact hw.ne f n hn
    · intro hab
      simp only at hab
      subst hab
      have hlo := hw.lo f n hn
      have hhi := hw.hi f n hn
      rw [q1] at hlo hhi
      obtain ⟨r1, r2⟩ := h.join_inj hw (e2 ▸ part_ok2 hw hlo false) (e2 ▸ part_ok2 hw hlo true) ja jb
      rcases qc with ⟨m, hm, hml⟩ | ⟨m, hm, hml⟩
      · rw [part_at hm hml, part_at hm hml] at r1
        exact hw.ne _ m hm (by simpa using r1)
      · rw [part_at hm hml, part_at hm hml] at r2
        exact hw.ne _ m hm (by simpa using r2)

/-- two levels, each in the other's place -/
def swk (l k : Int) : Int := if k = l then l + 1 else if k = l + 1 then l else k
theorem swk_swk (l k : Int) : swk l (swk l k) = k := by
  unfold swk
  by_cases e1 : k = l
  · rw [if_pos e1, if_neg (by omega), if_pos rfl, e1]
  · rw [if_neg e1]
    by_cases e2 : k = l + 1
    · rw [if_pos e2, if_pos rfl, e2]
    · rw [if_neg e2, if_neg e1, if_neg e2]
theorem ExS.E (hw : Wf N top last) (hl0 : 0 ≤ l) (hl1 : l + 1 < top) (h : ExS N A l last lastc D S P) (hD : ∀ f, D f) (hS : ∀ f, S f) (hP : ∀ f, AtLv N l f → P f) {j f : Int} (hf : Ok N j f) (a : Int → Bool) : E A f a = E N f (fun k => a (swk l k)) := by
  have hwA := h.wf hw hl0 hl1 hD hS hP
  have s0 : swk l l = l + 1 := by simp [swk]
  have s1 : swk l (l + 1) = l := by simp [swk]
  refine ok_ind (P := fun f => Bdd.E A f a = Bdd.E N f (fun k => a (swk l k))) hw ?_ ?_ ?_ hf
  · rw [E_zero hw, E_zero hwA]
  · rw [E_one hw, E_one hwA]
  · intro f n hn i1 i2
    rw [E_node hw hn, ← i1, ← i2]
    by_cases e1 : n.lv = l
    · rw [e1, s0]
      by_cases ec : Cr N l n
      · obtain ⟨x, y, q, ja, jb⟩ := h.cr1 f n hn e1 ec (hP f ⟨n, hn, e1⟩)
        rw [E_node hwA q]
        have jE : ∀ {x y r : Int}, JoinOf A (l + 1) x y r → Bdd.E A r a = if a (l + 1) then Bdd.E A y a else Bdd.E A x a := by
          intro x y r hj
          rcases hj with ⟨r1, r2⟩ | ⟨_, r2⟩
          · rw [r2, r1]; simp
          · rw [E_node hwA r2]
        have pE : ∀ z, Bdd.E A z a = if a l then Bdd.E A (part N z (l + 1) true) a else Bdd.E A (part N z (l + 1) false) a := by
          intro z
          by_cases ez : AtLv N (l + 1) z
          · obtain ⟨m, hm, hml⟩ := ez
            rw [E_node hwA (h.low1 z m hm hml (hD z)), part_at hm hml, part_at hm hml]
            simp
          · rw [part_id ez, part_id ez]; simp
        rw [jE ja, jE jb, pE n.lo, pE n.hi]
        cases a l <;> cases a (l + 1) <;> simp
      · rw [E_node hwA (h.sink1 f n hn e1 ec (hS f))]
    · by_cases e2 : n.lv = l + 1
      · rw [E_node hwA (h.low1 f n hn e2 (hD f)), e2, s1]
      · rw [E_node hwA (h.other f n hn e1 e2)]
        have : swk l n.lv = n.lv := by simp [swk, e1, e2]
        rw [this]
end
end Go.Proofs.Ytbfmekddfibciaa
