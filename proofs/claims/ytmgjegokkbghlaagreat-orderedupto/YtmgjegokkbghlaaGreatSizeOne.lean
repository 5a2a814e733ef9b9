/- In one order the same functions have as many nodes, whatever the names. -/
import Derived.Test.YtmgjegokkbghlaaGreatAsks
import Derived.Test.YtmgjegokkbghlaaGreatShape
import Derived.Test.YtmgjegokkbghlaaGreatKeys
namespace Go.Proofs.YtmgjegokkbghlaaGreat
open Go.RowKit Go.Maps Bdd

section
variable {N M : Tab} {top last last' : Int}

/-- two nodes of one function -/
theorem node_two (h : Wf N top last) (h' : Wf M top last') {f g : Int} {n : Nd} (hn : N f = some n) (hg : Ok M 0 g) (he : ∀ a, E N f a = E M g a) :
    ∃ m, M g = some m ∧ m.lv = n.lv ∧ (∀ a, E N n.lo a = E M m.lo a) ∧ ∀ a, E N n.hi a = E M m.hi a := by
  have okn : Ok N n.lv f := ok_node hn
  have hlo := h.lo f n hn
  have hhi := h.hi f n hn
  have s1 : ∀ a v, E N f (setAt a n.lv v) = if v then E N n.hi a else E N n.lo a := by
    intro a v
    rw [E_node h hn]
    have : setAt a n.lv v n.lv = v := by simp [setAt]
    rw [this, E_setAt h hhi (by omega), E_setAt h hlo (by omega)]
  have hne : ∃ a, E N n.lo a ≠ E N n.hi a := by
    apply Classical.byContradiction
    intro hc
    exact h.ne f n hn ((canon_iff h (hlo.mono (by have := h.lv f n hn; omega)) (hhi.mono (by have := h.lv f n hn; omega))).2 (fun a => Classical.byContradiction (fun hq => hc ⟨a, hq⟩)))
  obtain ⟨a0, ha0⟩ := hne
  obtain ⟨m, hm, hl, q1, q2⟩ := shape h' (f := g) (j := n.lv) hg (fun i a v hi => by rw [← he, ← he, E_setAt h okn hi]) ⟨a0, by rw [← he, ← he, s1, s1]; simp; exact fun e => ha0 e.symm⟩
  refine ⟨m, hm, hl, fun a => ?_, fun a => ?_⟩
  · rw [q2, ← he, s1]; simp
  · rw [q1, ← he, s1]; simp

theorem rch_two (h : Wf N top last) (h' : Wf M top last') {f x : Int} (hr : Rch N f x) : ∀ {g : Int}, Ok M 0 g → (∀ a, E N f a = E M g a) → ∃ y m, Rch M g y ∧ M y = some m ∧ ∀ a, E N x a = E M y a := by
  induction hr with
  | self hn =>
    intro g hg he
    obtain ⟨m, hm, _⟩ := node_two h h' hn hg he
    exact ⟨g, m, Rch.self hm, hm, he⟩
  | @lo f n x hn hr ih =>
    intro g hg he
    obtain ⟨m, hm, hl, q1, q2⟩ := node_two h h' hn hg he
    obtain ⟨y, m', r1, r2, r3⟩ := ih ((h'.lo g m hm).mono (by have := h'.lv g m hm; omega)) q1
    exact ⟨y, m', Rch.lo hm r1, r2, r3⟩
  | @hi f n x hn hr ih =>
    intro g hg he
    obtain ⟨m, hm, hl, q1, q2⟩ := node_two h h' hn hg he
    obtain ⟨y, m', r1, r2, r3⟩ := ih ((h'.hi g m hm).mono (by have := h'.lv g m hm; omega)) q2
    exact ⟨y, m', Rch.hi hm r1, r2, r3⟩
end

/-- as many nodes, one way -/
theorem size_half {w w' : World} {b b' n1 n2 : Nat} {N M : Tab} {top last last' : Int} (h : Wf N top last) (h' : Wf M top last') (_hbig : last ≤ 4611686018427387904) (hbig' : last' ≤ 4611686018427387904) {H H' : Int → Option Int} (htr : Trim N H) (_hok : ∀ x f, H x = some f → Ok N 0 f) (hok' : ∀ x f, H' x = some f → Ok M 0 f)
    (hV : ∀ x f, H x = some f → ∃ g, H' x = some g ∧ ∀ a, E N f a = E M g a) (h1 : MapIs w Tryz.prog 95 b n1 (nodesG N)) (h2 : MapIs w' Tryz.prog 95 b' n2 (nodesG M)) : n1 ≤ n2 := by
  classical
  obtain ⟨l1, d1, e1, k1, q1⟩ := h1.keys lawFn
  obtain ⟨l2, d2, e2, k2, q2⟩ := h2.keys lawFn
  have a1 : ∀ kl ∈ l1, ∃ f n, N f = some n ∧ keyOf Tryz.prog 95 (.int .i64 f) = some kl := by
    intro kl hkl
    obtain ⟨key, hkey⟩ := q1 kl hkl
    obtain ⟨v, hv⟩ := Option.isSome_iff_exists.1 ((k1 key kl hkey).2 hkl)
    obtain ⟨f, n, r1, r2, _⟩ := nodesG_back hv
    exact ⟨f, n, r1, by rw [← r2]; exact hkey⟩
  have a2 : ∀ f n, N f = some n → ∃ g kl, kl ∈ l2 ∧ keyOf Tryz.prog 95 (.int .i64 g) = some kl ∧ ∀ a, E N f a = E M g a := by
    intro f n hn
    obtain ⟨x, f0, hx, hr⟩ := htr f n hn
    obtain ⟨g0, hg0, he0⟩ := hV x f0 hx
    obtain ⟨y, m, _, hm, he⟩ := rch_two h h' hr (hok' x g0 hg0) he0
    have hkl := keyFn ((h'.fitsN hbig') y m hm).1
    exact ⟨y, _, (k2 _ _ hkl).1 (by simp [nodesG, hm]), hkl, he⟩
  rw [← e1, ← e2]
  have pick : ∀ kl ∈ l1, ∃ kl2 f g n, kl2 ∈ l2 ∧ N f = some n ∧ keyOf Tryz.prog 95 (.int .i64 f) = some kl ∧ keyOf Tryz.prog 95 (.int .i64 g) = some kl2 ∧ ∀ a, E N f a = E M g a := by
    intro kl hkl
    obtain ⟨f, n, hn, hk⟩ := a1 kl hkl
    obtain ⟨g, kl2, r1, r2, r3⟩ := a2 f n hn
    exact ⟨kl2, f, g, n, r1, hn, hk, r2, r3⟩
  refine map_le (fun kl => if h : kl ∈ l1 then (pick kl h).choose else kl) d1 ?_ ?_
  · intro x hx y hy e
    simp only [hx, hy, dif_pos] at e
    obtain ⟨f, g, n, p1, p2, p3, p4, p5⟩ := (pick x hx).choose_spec
    obtain ⟨f', g', n', q1, q2, q3, q4, q5⟩ := (pick y hy).choose_spec
    rw [e] at p4
    have hgg := lawFn.inj p4 q4
    simp only [Value.int.injEq, true_and] at hgg
    subst hgg
    have hff : f = f' := (canon_iff h ((ok_node p2).mono (h.lv f n p2).1) ((ok_node q2).mono (h.lv f' n' q2).1)).2 (fun a => (p5 a).trans (q5 a).symm)
    subst hff
    rw [p3] at q3
    exact Option.some.inj q3
  · intro x hx
    simp only [hx, dif_pos]
    exact (pick x hx).choose_spec.choose_spec.choose_spec.choose_spec.1

/-- so many nodes the functions V have together, in the order o -/
def Cnts (L : Nat) (o : Int → Int) (V : Int → Option Fun) (sz : Nat) : Prop :=
  ∃ (w : World) (s hb t bn bm nh : Nat) (od : Ord L) (lim given : Int) (N : Tab) (last : Int) (H : Int → Option Int), StAt w s hb t bn bm sz nh od lim given N last H ∧ Trim N H ∧ (∀ h, V h = (H h).map (FV N od)) ∧ ∀ k, 0 ≤ k → k < (L : Int) → od.at_ k = o k
theorem St.cnts {w : World} {s hb t bn bm L nh sz : Nat} {od : Ord L} {lim given lb : Int} {V : Int → Option Fun} (h : St w s hb t bn bm od nh sz lim given V lb) : Cnts L od.at_ V sz := by
  obtain ⟨N, last, H, hst, k1, k2, _⟩ := h
  exact ⟨w, s, hb, t, bn, bm, nh, od, lim, given, N, last, H, hst, k1, k2, fun _ _ _ => rfl⟩
theorem Cnts.congr {L sz : Nat} {o o' : Int → Int} {V : Int → Option Fun} (h : Cnts L o V sz) (he : ∀ k, 0 ≤ k → k < (L : Int) → o k = o' k) : Cnts L o' V sz := by
  obtain ⟨w, s, hb, t, bn, bm, nh, od, lim, given, N, last, H, h1, h2, h3, h4⟩ := h
  exact ⟨w, s, hb, t, bn, bm, nh, od, lim, given, N, last, H, h1, h2, h3, fun k k0 k1 => (h4 k k0 k1).trans (he k k0 k1)⟩
/-- as many nodes -/
theorem Cnts.one {L sz sz' : Nat} {o : Int → Int} {V : Int → Option Fun} (h : Cnts L o V sz) (h' : Cnts L o V sz') : sz = sz' := by
  obtain ⟨w, s, hb, t, bn, bm, nh, od, lim, given, N, last, H, hst, k1, k2, ho1⟩ := h
  obtain ⟨w', s', hb', t', bn', bm', nh', od', lim', given', M, last', H', hst', k1', k2', ho2⟩ := h'
  have ho : ∀ k, 0 ≤ k → k < (L : Int) → od.at_ k = od'.at_ k := fun k k0 k1 => (ho1 k k0 k1).trans (ho2 k k0 k1).symm
  have key : ∀ {N M : Tab} {H H' : Int → Option Int} {last last' : Int} {od od' : Ord L} (_ : Wf N (L : Int) last) (_ : Wf M (L : Int) last') (_ : ∀ k, 0 ≤ k → k < (L : Int) → od.at_ k = od'.at_ k) (_ : ∀ x, V x = (H x).map (FV N od)) (_ : ∀ x, V x = (H' x).map (FV M od')) (_ : ∀ x f, H x = some f → Ok N 0 f) (_ : ∀ x f, H' x = some f → Ok M 0 f), ∀ x f, H x = some f → ∃ g, H' x = some g ∧ ∀ a, E N f a = E M g a := by
    intro N M H H' last last' od od' hw hw' ho k2 k2' hok hok' x f hx
    have e1 := k2 x
    rw [k2' x, hx] at e1
    obtain ⟨g, hg, e2⟩ := Option.map_eq_some_iff.1 e1
    refine ⟨g, hg, fun a => ?_⟩
    have e3 := congrFun e2 (fun u => a (od.lv u))
    rw [FV_back hw (hok x f hx)] at e3
    rw [← e3]
    refine E_lev hw' (hok' x g hg) (fun k h0 h1 => ?_)
    show a (od.lv (od'.at_ k)) = a k
    rw [← ho k h0 h1, (od.r1 k h0 h1).2.2]
  refine Nat.le_antisymm (size_half hst.tab.wf hst'.tab.wf hst.tab.big hst'.tab.big k1 hst.ok hst'.ok (key hst.tab.wf hst'.tab.wf ho k2 k2' hst.ok hst'.ok) hst.tab.nodes hst'.tab.nodes) (size_half hst'.tab.wf hst.tab.wf hst'.tab.big hst.tab.big k1' hst'.ok hst.ok (key hst'.tab.wf hst.tab.wf (fun k h0 h1 => (ho k h0 h1).symm) k2' k2 hst'.ok hst.ok) hst'.tab.nodes hst.tab.nodes)

theorem size_one {w w' : World} {s hb t bn bm s' hb' t' bn' bm' L nh sz nh' sz' : Nat} {od od' : Ord L} {lim given lb lim' given' lb' : Int} {V : Int → Option Fun} (h : St w s hb t bn bm od nh sz lim given V lb) (h' : St w' s' hb' t' bn' bm' od' nh' sz' lim' given' V lb') (ho : ∀ k, 0 ≤ k → k < (L : Int) → od.at_ k = od'.at_ k) : sz = sz' :=
  (h.cnts.congr ho).one h'.cnts

end Go.Proofs.YtmgjegokkbghlaaGreat
