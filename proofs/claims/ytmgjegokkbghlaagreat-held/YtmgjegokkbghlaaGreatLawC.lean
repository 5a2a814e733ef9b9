/- The law's world: its pairs, what it holds; looks. -/
import Derived.Test.YtmgjegokkbghlaaGreatLawB
namespace Go.Proofs.YtmgjegokkbghlaaGreat
open Go.RowKit Go.Maps Bdd
set_option linter.unusedVariables false
attribute [local go_sem ↓] Go.wp_at_zero Go.wp_at_succ

/-- a pair: the program's store, its twin, the document's; what they hold -/
structure Pr where
  p : Nat
  q : Nat
  r : Nat
  A : Abs
def ptr (b : Nat) : Value := .pointer (some ⟨b, 0, none⟩)
def prV (x : Pr) : List Value := [ptr x.p, ptr x.q, ptr x.r]
def flatP (ps : List Pr) : List Value := (ps.map prV).flatten
theorem flatP_snoc (ps : List Pr) (x : Pr) : flatP (ps ++ [x]) = flatP ps ++ [ptr x.p, ptr x.q, ptr x.r] := by simp [flatP, prV]
theorem flatP_get : ∀ (ps : List Pr) (i : Nat) (x : Pr), ps[i]? = some x → (flatP ps)[i * 3]? = some (ptr x.p) ∧ (flatP ps)[i * 3 + 1]? = some (ptr x.q) ∧ (flatP ps)[i * 3 + 2]? = some (ptr x.r)
  | [], i, x, h => by simp at h
  | y :: r, 0, x, h => by simp at h; subst h; simp [flatP, prV]
  | y :: r, i + 1, x, h => by
    have := flatP_get r i x (by simpa using h)
    have e1 : (i + 1) * 3 = i * 3 + 1 + 1 + 1 := by omega
    have e3 : flatP (y :: r) = ptr y.p :: ptr y.q :: ptr y.r :: flatP r := by simp [flatP, prV]
    rw [e1, e3]
    simpa using this
theorem set_same {α : Type} : ∀ (l : List α) (i : Nat) (x : α), l[i]? = some x → l.set i x = l
  | [], i, x, h => by simp
  | y :: r, 0, x, h => by simp at h; subst h; simp
  | y :: r, i + 1, x, h => by simp only [List.set_cons_succ]; rw [set_same r i x (by simpa using h)]
theorem flatP_set {ps : List Pr} {i : Nat} {x x' : Pr} (h : ps[i]? = some x) (e : prV x' = prV x) : flatP (ps.set i x') = flatP ps := by
  unfold flatP
  rw [List.map_set, e, set_same _ _ _ (by simp [h])]

/-- A PAIR: the three hold the same -/
def PairOk (w : World) (own : Own) (i : Nat) (x : Pr) (K : Nat) : Prop := AbsOk x.A ∧ x.A.la ≤ (K : Int) ∧ PS w own (2, i) x.p x.A (1 + 100000 * (K : Int)) ∧ PS w own (3, i) x.q x.A (1 + 100000 * (K : Int)) ∧ RW w own (4, i) x.r x.A
theorem PairOk.wider {w : World} {own : Own} {i : Nat} {x : Pr} {K K' : Nat} (h : PairOk w own i x K) (hk : K ≤ K') : PairOk w own i x K' := by
  obtain ⟨h1, h2, h3, h4, h5⟩ := h
  exact ⟨h1, by omega, h3.wider (by omega), h4.wider (by omega), h5⟩
theorem PairOk.frame {w w' : World} {own own' : Own} {i : Nat} {x : Pr} {K : Nat} {T : Tag → Prop} (h : PairOk w own i x K) (ho : Onlys own T w w') (t2 : ¬ T (2, i)) (t3 : ¬ T (3, i)) (t4 : ¬ T (4, i)) (o2 : ∀ b, b < w.heap.size → own b = (2, i) → own' b = (2, i)) (o3 : ∀ b, b < w.heap.size → own b = (3, i) → own' b = (3, i)) (o4 : ∀ b, b < w.heap.size → own b = (4, i) → own' b = (4, i)) : PairOk w' own' i x K := by
  obtain ⟨h1, h2, h3, h4, h5⟩ := h
  exact ⟨h1, h2, h3.frame ho t2 o2, h4.frame ho t3 o3, h5.frame h1 ho t4 o4⟩

/-- THE LAW'S WORLD, at W: its pairs (those of Q are told), what it holds; nothing was hurt; what was there ahead of it (w0) is as it was. -/
structure WX (Q : Nat → Prop) (w0 w : World) (own : Own) (W : Nat) (ps : List Pr) (hs : List Nat) (K : Nat) : Prop where
  low : Keeps [] w0 w
  mine : ∀ b, b < w0.heap.size → own b = (0, 1)
  ow : own W = (1, 0)
  fr : ∀ j, w.frozen? ⟨W, j, none⟩ = false
  c0 : ∃ pv, w.cell? ⟨W, 0, none⟩ = some pv ∧ w.ownsRow 0 44 3 pv ps.length (flatP ps) ∧ pv.ownBlock ≠ some W ∧ ∀ g, pv.ownBlock = some g → own g = (1, 0)
  c1 : ∃ hv, w.cell? ⟨W, 1, none⟩ = some hv ∧ w.ownsRow 0 51 1 hv hs.length (hs.map ptr) ∧ hv.ownBlock ≠ some W ∧ ∀ g, hv.ownBlock = some g → own g = (1, 0)
  c2 : w.cell? ⟨W, 2, none⟩ = some (.bool false)
  prs : ∀ i x, Q i → ps[i]? = some x → PairOk w own i x K
  hds : ∀ j h, hs[j]? = some h → HoldOk w own (5, j) h
  kp : ps.length ≤ K
  kh : hs.length ≤ K
abbrev WAt := WX (fun _ => True)

section
variable {Q : Nat → Prop} {w0 w w' : World} {own own' : Own} {W : Nat} {ps : List Pr} {hs : List Nat} {K : Nat}
theorem WX.lt (h : WX Q w0 w own W ps hs K) : W < w.heap.size := cell_lt (p := ⟨W, 2, none⟩) h.c2
theorem WX.sub {Q' : Nat → Prop} (h : WX Q w0 w own W ps hs K) (hq : ∀ i, Q' i → Q i) : WX Q' w0 w own W ps hs K :=
  ⟨h.low, h.mine, h.ow, h.fr, h.c0, h.c1, h.c2, fun i x hi hx => h.prs i x (hq i hi) hx, h.hds, h.kp, h.kh⟩
theorem WX.wider {K' : Nat} (h : WX Q w0 w own W ps hs K) (hk : K ≤ K') : WX Q w0 w own W ps hs K' :=
  ⟨h.low, h.mine, h.ow, h.fr, h.c0, h.c1, h.c2, fun i x hi hx => (h.prs i x hi hx).wider hk, h.hds, Nat.le_trans h.kp hk, Nat.le_trans h.kh hk⟩
/-- what was there stays as it was -/
theorem low_keeps {T : Tag → Prop} (low : Keeps [] w0 w) (mine : ∀ b, b < w0.heap.size → own b = (0, 1)) (ho : Onlys own T w w') (t0 : ¬ T (0, 1)) : Keeps [] w0 w' := by
  obtain ⟨S, hk, g⟩ := ho
  refine ((low.mono (by simp)).trans hk).strike (fun i hi hl => ?_)
  rcases g i hi with e | e
  · rw [mine i hl] at e
    exact absurd e t0
  · have := low.size; omega
theorem WX.frame {T : Tag → Prop} (h : WX Q w0 w own W ps hs K) (ho : Onlys own T w w') (t0 : ¬ T (0, 1)) (t1 : ¬ T (1, 0)) (t2 : ∀ i, Q i → ¬ T (2, i)) (t3 : ∀ i, Q i → ¬ T (3, i)) (t4 : ∀ i, Q i → ¬ T (4, i)) (t5 : ∀ i, ¬ T (5, i))
    (hown : ∀ b tg, b < w.heap.size → tg ≠ (0, 0) → own b = tg → own' b = tg) (hs0 : w0.heap.size ≤ w.heap.size) : WX Q w0 w' own' W ps hs K := by
  have nW : ¬ T (own W) := by rw [h.ow]; exact t1
  have hW := h.lt
  obtain ⟨pv, p1, p2, p3, p4⟩ := h.c0
  obtain ⟨hv, q1, q2, q3, q4⟩ := h.c1
  refine ⟨low_keeps h.low h.mine ho t0, fun b hb => hown b _ (by omega) (by simp) (h.mine b hb), hown W _ hW (by simp) h.ow, fun j => (ho.frozen (p := ⟨W, j, none⟩) hW nW).trans (h.fr j), ⟨pv, ho.cell p1 nW, ho.row p2 (fun g hg => by rw [p4 g hg]; exact t1), p3, fun g hg => hown g _ (p2.lt g hg).2 (by simp) (p4 g hg)⟩, ⟨hv, ho.cell q1 nW, ho.row q2 (fun g hg => by rw [q4 g hg]; exact t1), q3, fun g hg => hown g _ (q2.lt g hg).2 (by simp) (q4 g hg)⟩, ho.cell h.c2 nW, fun i x hi hx => ?_, fun j x hx => ?_, h.kp, h.kh⟩
  · exact (h.prs i x hi hx).frame ho (t2 i hi) (t3 i hi) (t4 i hi) (fun b hb e => hown b _ hb (by simp) e) (fun b hb e => hown b _ hb (by simp) e) (fun b hb e => hown b _ hb (by simp) e)
  · exact (h.hds j x hx).frame ho (t5 j) (fun b hb e => hown b _ hb (by simp) e)
theorem WX.keeps (h : WX Q w0 w own W ps hs K) (hk : Keeps [] w w') (hown : ∀ b tg, b < w.heap.size → tg ≠ (0, 0) → own b = tg → own' b = tg) : WX Q w0 w' own' W ps hs K :=
  h.frame (T := fun _ => False) (Onlys.nil hk) (by simp) (by simp) (by simp) (by simp) (by simp) (by simp) hown h.low.size

set_option maxRecDepth 100000 in
set_option maxHeartbeats 1000000 in
theorem looks_any (h : WX Q w0 w own W ps hs K) (hK : K ≤ 4611686018427387904) : Calls Tryz.prog 10 #[ptr W] w fun e w' => e = .returned (.bool true) ∧ Keeps [] w w' := by
  obtain ⟨hv, q1, q2, q3, q4⟩ := h.c1
  obtain ⟨a, n, cap, hn, rfl, hcells⟩ : ∃ a n cap, n = hs.length ∧ hv = .slice a n cap ∧ (n = 0 ∨ ∃ g, a = some ⟨g, 0, none⟩ ∧ ∀ i, i < n → ∃ x, hs[i]? = some x ∧ w.cell? ⟨g, i, none⟩ = some (.pointer (some ⟨x, 0, none⟩))) := by
    rcases q2.2 with ⟨e, h0⟩ | ⟨g, cap, cur, e, _⟩
    · exact ⟨none, 0, 0, h0.symm, e, Or.inl rfl⟩
    · subst e
      refine ⟨_, hs.length, cap, rfl, rfl, Or.inr ⟨g, rfl, fun i hi => ?_⟩⟩
      refine ⟨hs[i], List.getElem?_eq_getElem hi, ?_⟩
      rw [World.ownsRow.cellAt q2 i (by omega)]
      simp [hi, ptr]
  have hnK : (n : Int) ≤ 4611686018427387904 := by have := h.kh; omega
  have c2 := h.c2
  have HD : Hid (∀ j x, hs[j]? = some x → HoldOk w own (5, j) x) := h.hds
  have HC : Hid (n = 0 ∨ ∃ g, a = some ⟨g, 0, none⟩ ∧ ∀ i, i < n → ∃ x, hs[i]? = some x ∧ w.cell? ⟨g, i, none⟩ = some (.pointer (some ⟨x, 0, none⟩))) := hcells
  clear hcells q2 q3 q4 h hn
  unfold ptr
  go_enter Tryz.func10, Tryz.ntmps10
  go_wp2_with fail
  go_loopw [3] (fun x wr => ∃ j : Nat, j ≤ n ∧ x = .int .i64 j ∧ Keeps [] w wr) (fun x _ => n - (intOf x).toNat)
  case atStart => exact ⟨0, by omega, rfl, Keeps.refl _ _⟩
  case round =>
    obtain ⟨j, hj, rfl, hk⟩ := hrel
    have d1 := hk.cell q1 (by simp)
    by_cases hlt : j < n
    · have hj0 : (0 : Int) ≤ (j : Int) := by omega
      have hj1 : (j : Int) < (n : Int) := by omega
      obtain ⟨g, ea, hc⟩ : ∃ g, a = some ⟨g, 0, none⟩ ∧ ∀ i, i < n → ∃ x, hs[i]? = some x ∧ w.cell? ⟨g, i, none⟩ = some (.pointer (some ⟨x, 0, none⟩)) := by
        rcases HC.out with h | h
        · omega
        · exact h
      subst ea
      obtain ⟨x, hx, hcx⟩ := hc j hlt
      have p1 := hk.cell hcx (by simp)
      have hm := marked_any ((HD.out j x hx).frame (T := fun _ => False) (own' := own) (Onlys.nil hk) (by simp) (fun b _ e => e))
      clear hc hcx hx
      go_wp2_with fail
      refine hm.mono ?_
      rintro e w1 ⟨rfl, hk1⟩
      go_wp2_with fail
      go_roundw
      case rel => exact ⟨j + 1, by omega, by go_num, hk.trans hk1⟩
      case measure => simp [intOf]; omega
    · have hj1 : (n : Int) ≤ (j : Int) := by omega
      have d2 := hk.cell c2 (by simp)
      go_wp2_with fail
      go_ret
      exact ⟨rfl, hk⟩
end

end Go.Proofs.YtmgjegokkbghlaaGreat
