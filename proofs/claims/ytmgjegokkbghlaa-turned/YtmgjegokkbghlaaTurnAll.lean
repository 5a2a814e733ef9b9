/- The order turned: exchange of a store. In one order the same functions have as many nodes: whatever the names. exchange of a store. move of a store. arrange, settle, Sift, Reorder, Order of a store. arrange, isOrder, Order, Reorder of a store. Order, Reorder of a store. turned; Reorder of what is no order. -/
import Derived.Test.YtmgjegokkbghlaaExchE
import Derived.Test.YtmgjegokkbghlaaAsks
import Derived.Test.YtmgjegokkbghlaaSizeOne
import Derived.Deep.LoopGhost
import Derived.WalkMore
import Derived.ArgAppend
import Derived.OpenShut
import Derived.Test.YtmgjegokkbghlaaBits
import Derived.Test.YtmgjegokkbghlaaGrown
namespace Go.Proofs.Ytmgjegokkbghlaa
open Go.RowKit Go.Maps Bdd
attribute [local go_sem ↓] Go.wp_at_zero Go.wp_at_succ

theorem swk_in {l k top : Int} (hl0 : 0 ≤ l) (hl1 : l + 1 < top) (h0 : 0 ≤ k) (h1 : k < top) : 0 ≤ swk l k ∧ swk l k < top := by
  unfold swk
  split
  · omega
  · split <;> omega
/-- two neighbours of an order exchanged -/
def Ord.swap {L : Nat} (od : Ord L) (l : Int) (hl0 : 0 ≤ l) (hl1 : l + 1 < (L : Int)) : Ord L where
  at_ k := od.at_ (swk l k)
  lv u := swk l (od.lv u)
  r1 k h0 h1 := by
    obtain ⟨a0, a1⟩ := swk_in hl0 hl1 h0 h1
    obtain ⟨b0, b1, b2⟩ := od.r1 _ a0 a1
    exact ⟨b0, b1, by rw [b2, swk_swk]⟩
  r2 u h0 h1 := by
    obtain ⟨b0, b1, b2⟩ := od.r2 u h0 h1
    obtain ⟨a0, a1⟩ := swk_in hl0 hl1 b0 b1
    exact ⟨a0, a1, by rw [swk_swk, b2]⟩
  blk := od.blk
  cap := od.cap

theorem OrdIn.swap {L : Nat} {od : Ord L} {w : World} (h : OrdIn w od) {p : Nat} (h0 : 0 ≤ (p : Int)) (h1 : (p : Int) + 1 < (L : Int)) : OrdIn ((w.setCell ⟨od.blk, p, none⟩ (.int .i64 (od.at_ ((p : Int) + 1)))).setCell ⟨od.blk, p + 1, none⟩ (.int .i64 (od.at_ (p : Int)))) (od.swap p h0 h1) := by
  intro k hk
  refine ⟨?_, by rw [World.frozen?_setCell, World.frozen?_setCell]; exact (h k hk).2⟩
  show _ = some (Value.int .i64 (od.at_ (swk p k)))
  by_cases e1 : k = p + 1
  · subst e1
    have : swk (p : Int) ((p + 1 : Nat) : Int) = (p : Int) := by unfold swk; rw [if_neg (by omega), if_pos (by omega)]
    rw [this]
    refine World.cell?_setCell_same _ _ _ (u := .int .i64 (od.at_ ((p + 1 : Nat) : Int))) ?_
    show (w.setCell _ _).cell? ⟨od.blk, p + 1, none⟩ = _
    rw [World.cell?_setCell_other _ _ _ _ (by first | (simp; done) | (simp; omega))]
    exact (h (p + 1) hk).1
  · have hn1 : (⟨(od.swap p h0 h1).blk, k, none⟩ : Addr) ≠ ⟨od.blk, p + 1, none⟩ := by intro e; cases e; exact e1 rfl
    rw [World.cell?_setCell_other _ _ _ _ (by first | exact hn1 | exact fun e => hn1 e.symm | (simp; omega))]
    by_cases e2 : k = p
    · subst e2
      have : swk (k : Int) (k : Int) = (k : Int) + 1 := by unfold swk; rw [if_pos rfl]
      rw [this]
      exact World.cell?_setCell_same _ _ _ (h k hk).1
    · have : swk (p : Int) (k : Int) = (k : Int) := by unfold swk; rw [if_neg (by omega), if_neg (by omega)]
      rw [this, World.cell?_setCell_other _ _ _ _ (by first | (simp; done) | (simp; omega))]
      exact (h k hk).1

/-- no function is changed -/
theorem FV_swapo {N A : Tab} {L : Nat} {od : Ord L} {l last lastc : Int} (hw : Wf N (L : Int) last) (hl0 : 0 ≤ l) (hl1 : l + 1 < (L : Int)) (h : ExS N A l last lastc (fun _ => True) (fun _ => True) (AtLv N l)) {f : Int} (hf : Ok N 0 f) : FV A (od.swap l hl0 hl1) f = FV N od f := by
  funext a
  show E A f (fun k => a (od.at_ (swk l k))) = E N f (fun k => a (od.at_ k))
  rw [h.E hw hl0 hl1 (fun _ => trivial) (fun _ => trivial) (fun _ h => h) hf]
  simp only [swk_swk]

/-- a store by its table's names, whatever the table's size -/
theorem StAt.exch {w w' : World} {s hb t bn bm sz sz' nh L : Nat} {od : Ord L} {lim given : Int} {N A : Tab} {last lastc : Int} {H : Int → Option Int} {p : Nat} (h : StAt w s hb t bn bm sz nh od lim given N last H) (h0 : 0 ≤ (p : Int)) (h1 : (p : Int) + 1 < (L : Int)) (hk : Keeps [t, bn, bm] w w') (hT : TabAt w' t bn bm sz' A (L : Int) lastc) (hok : ∀ x f, H x = some f → Ok A 0 f) :
    StAt ((w'.setCell ⟨od.blk, p, none⟩ (.int .i64 (od.at_ ((p : Int) + 1)))).setCell ⟨od.blk, p + 1, none⟩ (.int .i64 (od.at_ (p : Int)))) s hb t bn bm sz' nh (od.swap p h0 h1) lim given A lastc H := by
  have g := h.turn hk hT hok
  have hk2 : Keeps [od.blk] w' ((w'.setCell ⟨od.blk, p, none⟩ (.int .i64 (od.at_ ((p : Int) + 1)))).setCell ⟨od.blk, p + 1, none⟩ (.int .i64 (od.at_ (p : Int)))) := ((Keeps.refl _ _).setCell _ (Or.inl (by simp)) _).setCell _ (Or.inl (by simp)) _
  have hs : s ∉ [od.blk] := by simp; exact fun e => g.n4 e.symm
  exact ⟨g.tab.keeps hk2 (by simp; exact fun e => g.n5 e.symm) (by simp; exact fun e => g.on e.symm) (by simp; exact fun e => g.om e.symm), hk2.cell g.c0 hs, hk2.cell g.c1 hs, hk2.cell g.c2 hs, hk2.cell g.c3 hs, hk2.cell g.c4 hs, (hk2.frozen (p := ⟨s, 1, none⟩) (cell_lt g.c1) hs).trans g.f1, g.held.keeps hk2 (by simp; exact fun e => g.oh e.symm), g.ord.swap h0 h1, g.pos, g.n1, g.n2, g.n3, g.n4, g.n5, g.ok, g.hr, g.g0, g.g1⟩


end Go.Proofs.Ytmgjegokkbghlaa


namespace Go.Proofs.Ytmgjegokkbghlaa
open Go.RowKit Go.Maps Bdd
attribute [local go_sem ↓] Go.wp_at_zero Go.wp_at_succ

set_option maxRecDepth 100000 in
set_option maxHeartbeats 16000000 in
theorem exchangec_any {w : World} {s hb t bn bm L nh sz : Nat} {od : Ord L} {lim given lb : Int} {V : Int → Option Fun} (h : St w s hb t bn bm od nh sz lim given V lb) {p : Nat} (h0 : 0 ≤ (p : Int)) (h1 : (p : Int) + 1 < (L : Int)) (hlb : lb + 50000 ≤ 4611686018427387904) :
    Calls Try.prog 82 #[.pointer (some ⟨s, 0, none⟩), .int .i64 (p : Int)] w fun e w' => e = .returned (.tuple #[]) ∧ (∃ sz', St w' s hb t bn bm (od.swap p h0 h1) nh sz' lim given V (lb + 50000)) ∧ Keeps [t, bn, bm, od.blk] w w' := by
  obtain ⟨N, last, H, hst, k1, k2, k3, k4, k5, k6⟩ := h
  have hL8 : L ≤ 8 := by have := hst.tab.wf.tops; omega
  have hpl : pw L ≤ 256 := by
    have : ∀ k, k ≤ 8 → pw k ≤ 256 := by decide
    exact this L (by omega)
  have hszb : sz ≤ 20000 := by
    have : sz ≤ 60 * 255 := Nat.le_trans k5 (Nat.mul_le_mul k6 (by omega))
    omega
  have c4 := hst.c4
  have HV : Hid (∀ x, V x = (H x).map (FV N od)) := k2
  have hp1 : p + 1 < L := by omega
  have ls := hst.lts
  have nso : s ∉ [t, bn, bm] := by simp; exact ⟨hst.n3, hst.tab.names.ne_cell hst.c0, hst.tab.nodes.ne_cell hst.c0⟩
  have noo : od.blk ∉ [t, bn, bm] := by simp; exact ⟨hst.n5, hst.on, hst.om⟩
  clear k2
  go_enter Try.func82, Try.ntmps82
  go_wp2_with fail
  refine (exchange_any hst.tab h0 h1 hszb (by omega)).mono ?_
  rintro e w1 ⟨A, lastc, sz1, rfl, hT1, hE1, hlc, hk1⟩
  have d2 := hk1.cell hst.c2 nso
  have o0 := hk1.cell (hst.ord p (by omega)).1 noo
  have o1 := hk1.cell (hst.ord (p + 1) hp1).1 noo
  have q0 : w1.frozen? ⟨od.blk, p, none⟩ = false := (hk1.frozen (p := ⟨od.blk, p, none⟩) (ls _ (by simp)) noo).trans (hst.ord p (by omega)).2
  have q1 : w1.frozen? ⟨od.blk, p + 1, none⟩ = false := (hk1.frozen (p := ⟨od.blk, p + 1, none⟩) (ls _ (by simp)) noo).trans (hst.ord (p + 1) hp1).2
  have ks : ∀ (w' : World) (i : Nat) (u : Value), w'.cell? ⟨s, 2, none⟩ = some (.slice (some ⟨od.blk, 0, none⟩) L od.cap) → (w'.setCell ⟨od.blk, i, none⟩ u).cell? ⟨s, 2, none⟩ = some (.slice (some ⟨od.blk, 0, none⟩) L od.cap) := fun w' i u hc => by
    rw [World.cell?_setCell_other _ _ _ _ (by first | (simp; done) | (intro e; cases e; exact hst.n4 rfl) | (intro e; exact hst.n4 (congrArg Addr.block e).symm) | (intro e; exact hst.n4 (congrArg Addr.block e)))]
    exact hc
  have KS : Hid (∀ (w' : World) (i : Nat) (u : Value), w'.cell? ⟨s, 2, none⟩ = some (.slice (some ⟨od.blk, 0, none⟩) L od.cap) → (w'.setCell ⟨od.blk, i, none⟩ u).cell? ⟨s, 2, none⟩ = some (.slice (some ⟨od.blk, 0, none⟩) L od.cap)) := ks
  clear ks
  generalize hx0 : od.at_ ((p : Nat) : Int) = x0 at o0
  generalize hx1 : od.at_ ((p + 1 : Nat) : Int) = x1 at o1
  have HX : Hid (od.at_ ((p : Nat) : Int) = x0 ∧ od.at_ ((p + 1 : Nat) : Int) = x1) := ⟨hx0, hx1⟩
  clear hx0 hx1
  obtain ⟨x, hx⟩ : ∃ x : Int, x = (p : Int) := ⟨_, rfl⟩
  rw [← hx]
  have xn0 : x.toNat = p := by omega
  have xn1 : (x + 1).toNat = p + 1 := by omega
  have xb0 : 0 ≤ x := by omega
  have xb1 : x + 1 < (L : Int) := by omega
  have xb2 : x < (L : Int) := by omega
  have xb3 : 0 ≤ x + 1 := by omega
  have xb4 : (L : Int) ≤ 8 := by omega
  have hwr : IntKind.i64.wrap (x + 1) = x + 1 := IntWalk.i64_in _ ⟨by omega, by omega⟩
  rw [← xn0] at o0 q0
  rw [← xn1] at o1 q1
  have HXN : Hid (x = (p : Int) ∧ x.toNat = p ∧ (x + 1).toNat = p + 1) := ⟨hx, xn0, xn1⟩
  have HH : Hid (0 ≤ (p : Int) ∧ (p : Int) + 1 < (L : Int) ∧ p + 1 < L) := ⟨h0, h1, hp1⟩
  clear hx xn0 xn1
  go_wp2_with fail
  go_region
  go_wp2_with fail
  all_goals
    simp only [HXN.out.2.1, HXN.out.2.2]
    have hx0 := HX.out.1
    have hx1 := HX.out.2
    have hx1' : od.at_ ((p : Int) + 1) = x1 := by rw [← hx1]; congr 1
    rw [← hx0, ← hx1']
    have hok : ∀ y f, H y = some f → Ok A 0 f := fun y f hy => hE1.ok HH.out.1 (fun _ => trivial) (fun _ => trivial) (fun _ h => h) (hst.ok y f hy) (Or.inl HH.out.1)
    have hst2 := (hst.exch HH.out.1 HH.out.2.1 hk1 hT1 hok).keeps ((Keeps.refl _ _).drew)
    refine (forget_any hst2 (by omega)).mono ?_
    rintro e w3 ⟨sz3, K, rfl, hst3, hcl, hK1, hK2, hszb, hk3⟩
    have kk : Keeps [t, bn, bm, od.blk] w w3 := ((((hk1.mono (by simp)).setCell _ (Or.inl (by simp)) _).setCell _ (Or.inl (by simp)) _).drew).trans (hk3.mono (by simp))
    have HST3 : Hid (StAt w3 s hb t bn bm sz3 nh (od.swap p HH.out.1 HH.out.2.1) lim given (keep A K) lastc H) := hst3
    have hV3 : ∀ y, V y = (H y).map (FV (keep A K) (od.swap p HH.out.1 HH.out.2.1)) := by
      intro y
      rw [HV.out y, ← E_trim (od := od.swap p HH.out.1 HH.out.2.1) hst2.tab.wf hst2.tab.wf (Sub.refl A) hcl hst2.ok hK2 y]
      cases hy : H y with
      | none => rfl
      | some f =>
        simp only [Option.map_some]
        rw [FV_swapo hst.tab.wf HH.out.1 HH.out.2.1 hE1 (hst.ok y f hy)]
    have HV3 : Hid (∀ y, V y = (H y).map (FV (keep A K) (od.swap p HH.out.1 HH.out.2.1))) := hV3
    have htr := trim_keep hcl hK1 hK2
    clear hV3 hst3 hst2 hx0 hx1 hx1'
    go_wp2_with fail
    go_end0
    exact ⟨rfl, ⟨sz3, _, _, _, HST3.out, htr, HV3.out, by omega, k4, hszb, k6⟩, kk⟩

end Go.Proofs.Ytmgjegokkbghlaa

namespace Go.Proofs.Ytmgjegokkbghlaa
open Go.RowKit Go.Maps Bdd
attribute [local go_sem ↓] Go.wp_at_zero Go.wp_at_succ

/-- a variable at a place among the rest -/
def ins (rest : Int → Int) (i p k : Int) : Int := if k < p then rest k else if k = p then i else rest (k - 1)
theorem ins_down (rest : Int → Int) (i p k : Int) : ins rest i (p + 1) (swk p k) = ins rest i p k := by
  unfold ins swk
  by_cases e1 : k = p
  · subst e1
    rw [if_pos rfl, if_neg (by omega), if_pos rfl, if_neg (by omega), if_pos rfl]
  · rw [if_neg e1]
    by_cases e2 : k = p + 1
    · subst e2
      rw [if_pos rfl, if_pos (by omega), if_neg (by omega), if_neg (by omega)]
      congr 1
      omega
    · rw [if_neg e2]
      by_cases e3 : k < p
      · rw [if_pos (by omega), if_pos e3]
      · rw [if_neg (by omega), if_neg e2, if_neg e3, if_neg e1]
theorem ins_up (rest : Int → Int) (i p k : Int) : ins rest i p (swk p k) = ins rest i (p + 1) k := by
  rw [← ins_down rest i p (swk p k), swk_swk]
/-- the order is this one -/
def IsAt {L : Nat} (od : Ord L) (c : Int → Int) : Prop := ∀ k, 0 ≤ k → k < (L : Int) → od.at_ k = c k
def restOf {L : Nat} (od : Ord L) (i : Int) (k : Int) : Int := if k < od.lv i then od.at_ k else od.at_ (k + 1)
theorem isAt_rest {L : Nat} (od : Ord L) {i : Int} (i0 : 0 ≤ i) (i1 : i < (L : Int)) : IsAt od (ins (restOf od i) i (od.lv i)) := by
  intro k k0 k1
  unfold ins restOf
  by_cases e1 : k < od.lv i
  · rw [if_pos e1, if_pos e1]
  · rw [if_neg e1]
    by_cases e2 : k = od.lv i
    · rw [if_pos e2, e2, (od.r2 i i0 i1).2.2]
    · rw [if_neg e2, if_neg (by omega)]
      congr 1
      omega
theorem isAt_lv {L : Nat} {od : Ord L} {rest : Int → Int} {i p : Int} (h : IsAt od (ins rest i p)) (p0 : 0 ≤ p) (p1 : p < (L : Int)) : od.lv i = p := by
  have := h p p0 p1
  have e : ins rest i p p = i := by unfold ins; rw [if_neg (by omega), if_pos rfl]
  rw [e] at this
  rw [← this, (od.r1 p p0 p1).2.2]

theorem St.mono {w : World} {s hb t bn bm L nh sz : Nat} {od : Ord L} {lim given lb lb' : Int} {V : Int → Option Fun} (h : St w s hb t bn bm od nh sz lim given V lb) (hl : lb ≤ lb') : St w s hb t bn bm od nh sz lim given V lb' := by
  obtain ⟨N, last, H, z1, z2, z3, z4, z5, z6, z7⟩ := h
  exact ⟨N, last, H, z1, z2, z3, by omega, z5, z6, z7⟩
theorem placec_any {w : World} {s hb t bn bm L nh sz : Nat} {od : Ord L} {lim given lb : Int} {V : Int → Option Fun} (h : St w s hb t bn bm od nh sz lim given V lb) {i : Int} (h0 : 0 ≤ i) (h1 : i < (L : Int)) :
    Calls Try.prog 43 #[.pointer (some ⟨s, 0, none⟩), .int .i64 i] w fun e w' => e = .returned (.int .i64 (od.lv i)) ∧ Keeps [] w w' := by
  obtain ⟨N, last, H, hst, _⟩ := h
  exact place_any hst h0 h1

/-- a store whose order is told -/
def StO (w : World) (s hb t bn bm blk : Nat) (L nh : Nat) (lim given : Int) (V : Int → Option Fun) (lb : Int) (c : Int → Int) (sz : Nat) : Prop :=
  ∃ od : Ord L, St w s hb t bn bm od nh sz lim given V lb ∧ od.blk = blk ∧ IsAt od c
theorem StO.keeps {w w' : World} {s hb t bn bm blk L nh sz : Nat} {lim given lb : Int} {V : Int → Option Fun} {c : Int → Int} (h : StO w s hb t bn bm blk L nh lim given V lb c sz) (hk : Keeps [] w w') : StO w' s hb t bn bm blk L nh lim given V lb c sz := by
  obtain ⟨od, h1, h2, h3⟩ := h
  exact ⟨od, h1.keeps hk, h2, h3⟩
theorem StO.mono {w : World} {s hb t bn bm blk L nh sz : Nat} {lim given lb lb' : Int} {V : Int → Option Fun} {c : Int → Int} (h : StO w s hb t bn bm blk L nh lim given V lb c sz) (hl : lb ≤ lb') : StO w s hb t bn bm blk L nh lim given V lb' c sz := by
  obtain ⟨od, h1, h2, h3⟩ := h
  exact ⟨od, h1.mono hl, h2, h3⟩
theorem StO.size {w w' : World} {s hb t bn bm blk L nh sz sz' : Nat} {s' hb' t' bn' bm' blk' nh' : Nat} {lim given lb lim' given' lb' : Int} {V : Int → Option Fun} {c c' : Int → Int} (h : StO w s hb t bn bm blk L nh lim given V lb c sz) (h' : StO w' s' hb' t' bn' bm' blk' L nh' lim' given' V lb' c' sz') (hc : ∀ k, 0 ≤ k → k < (L : Int) → c k = c' k) : sz = sz' := by
  obtain ⟨od, h1, h2, h3⟩ := h
  obtain ⟨od', h1', h2', h3'⟩ := h'
  exact size_one h1 h1' (fun k k0 k1 => by rw [h3 k k0 k1, h3' k k0 k1, hc k k0 k1])
theorem StO.congr {w : World} {s hb t bn bm blk L nh sz : Nat} {lim given lb : Int} {V : Int → Option Fun} {c c' : Int → Int} (h : StO w s hb t bn bm blk L nh lim given V lb c sz) (hc : ∀ k, 0 ≤ k → k < (L : Int) → c k = c' k) : StO w s hb t bn bm blk L nh lim given V lb c' sz := by
  obtain ⟨od, h1, h2, h3⟩ := h
  exact ⟨od, h1, h2, fun k k0 k1 => (h3 k k0 k1).trans (hc k k0 k1)⟩

theorem exch_o {w : World} {s hb t bn bm blk L nh sz : Nat} {lim given lb : Int} {V : Int → Option Fun} {c : Int → Int} (h : StO w s hb t bn bm blk L nh lim given V lb c sz) {p : Nat} (h1 : (p : Int) + 1 < (L : Int)) (hlb : lb + 50000 ≤ 4611686018427387904) :
    Calls Try.prog 82 #[.pointer (some ⟨s, 0, none⟩), .int .i64 (p : Int)] w fun e w' => e = .returned (.tuple #[]) ∧ (∃ sz', StO w' s hb t bn bm blk L nh lim given V (lb + 50000) (fun k => c (swk p k)) sz') ∧ Keeps [t, bn, bm, blk] w w' := by
  obtain ⟨od, hS, rfl, hI⟩ := h
  refine (exchangec_any hS (by omega) h1 hlb).mono ?_
  rintro e w' ⟨rfl, ⟨sz', hS'⟩, hk⟩
  refine ⟨rfl, ⟨sz', _, hS', rfl, fun k k0 k1 => ?_⟩, hk⟩
  obtain ⟨a0, a1⟩ := swk_in (l := (p : Int)) (by omega) h1 k0 k1
  exact hI _ a0 a1
theorem place_o {w : World} {s hb t bn bm blk L nh sz : Nat} {lim given lb : Int} {V : Int → Option Fun} {rest : Int → Int} {i p : Int} (h : StO w s hb t bn bm blk L nh lim given V lb (ins rest i p) sz) (i0 : 0 ≤ i) (i1 : i < (L : Int)) (p0 : 0 ≤ p) (p1 : p < (L : Int)) :
    Calls Try.prog 43 #[.pointer (some ⟨s, 0, none⟩), .int .i64 i] w fun e w' => e = .returned (.int .i64 p) ∧ Keeps [] w w' := by
  obtain ⟨od, hS, rfl, hI⟩ := h
  have := placec_any hS i0 i1
  rw [isAt_lv hI p0 p1] at this
  exact this

set_option maxRecDepth 100000 in
set_option maxHeartbeats 1000000 in
theorem move_any {w : World} {s hb t bn bm blk L nh sz : Nat} {lim given lb : Int} {V : Int → Option Fun} {rest : Int → Int} {i : Int} {p tg : Nat} (h : StO w s hb t bn bm blk L nh lim given V lb (ins rest i p) sz) (i0 : 0 ≤ i) (i1 : i < (L : Int)) (p1 : p < L) (t1 : tg < L) (hL8 : L ≤ 8) (hlb : lb + 400000 ≤ 4611686018427387904) :
    Calls Try.prog 76 #[.pointer (some ⟨s, 0, none⟩), .int .i64 i, .int .i64 (tg : Int)] w fun e w' => e = .returned (.tuple #[]) ∧ (∃ sz', StO w' s hb t bn bm blk L nh lim given V (lb + 400000) (ins rest i tg) sz') ∧ Keeps [t, bn, bm, blk] w w' := by
  have HS : Hid (StO w s hb t bn bm blk L nh lim given V lb (ins rest i p) sz) := h
  clear h
  go_enter Try.func76, Try.ntmps76
  go_wp2_with fail
  go_loopg [] p (fun g wx => ∃ (q sz' : Nat), q ≤ p ∧ (tg ≤ q ∨ q = p) ∧ g = q ∧ StO wx s hb t bn bm blk L nh lim given V (lb + 50000 * ((p : Int) - q)) (ins rest i q) sz' ∧ Keeps [t, bn, bm, blk] w wx)
  case atStart => exact ⟨p, sz, Nat.le_refl _, Or.inr rfl, rfl, HS.out.mono (by omega), Keeps.refl _ _⟩
  case round =>
    obtain ⟨q, sz', hq, hqt, hgq, hS, hk⟩ := hrel
    have q0 : (0 : Int) ≤ (q : Int) := by omega
    have q1 : (q : Int) < (L : Int) := by omega
    by_cases hc : tg < q
    · have hc' : (tg : Int) < (q : Int) := by omega
      go_wp2_with fail
      refine (place_o hS i0 i1 q0 q1).mono ?_
      rintro e w2 ⟨rfl, hk2⟩
      have hS2 := hS.keeps hk2
      go_wp2_with fail
      refine (place_o hS2 i0 i1 q0 q1).mono ?_
      rintro e w3 ⟨rfl, hk3⟩
      have hS3 := hS2.keeps hk3
      obtain ⟨r, rfl⟩ : ∃ r, q = r + 1 := ⟨q - 1, by omega⟩
      have er : ((r + 1 : Nat) : Int) - 1 = (r : Int) := by omega
      go_wp2_with fail
      refine (exch_o hS3 (p := r) (by omega) (by omega)).mono ?_
      rintro e w4 ⟨rfl, ⟨sz4, hS4⟩, hk4⟩
      go_wp2_with fail
      go_roundg r
      case measure => omega
      case rel =>
        refine ⟨r, sz4, by omega, Or.inl (by omega), rfl, ?_, (hk.trans ((hk2.trans hk3).mono (by simp))).trans hk4⟩
        have e5 : ((r + 1 : Nat) : Int) = (r : Int) + 1 := by omega
        refine (hS4.congr (fun k k0 k1 => ?_)).mono (by omega)
        rw [e5]
        exact ins_down rest i r k
    · have hc' : (q : Int) ≤ (tg : Int) := by omega
      go_wp2_with fail
      refine (place_o hS i0 i1 q0 q1).mono ?_
      rintro e w2 ⟨rfl, hk2⟩
      have hS2 := hS.keeps hk2
      have hk' := hk.trans (hk2.mono (by simp))
      clear hS hgq
      obtain ⟨wA, rfl⟩ : ∃ wA, wA = w2 := ⟨w2, rfl⟩
      go_wp2_with fail
      go_loopg [] (tg - q) (fun g wx => ∃ (r sz' : Nat), q ≤ r ∧ r ≤ tg ∧ g = tg - r ∧ StO wx s hb t bn bm blk L nh lim given V (lb + 50000 * ((p : Int) - q) + 50000 * ((r : Int) - q)) (ins rest i r) sz' ∧ Keeps [t, bn, bm, blk] w wx)
      case atStart => exact ⟨q, sz', Nat.le_refl _, by omega, rfl, hS2.mono (by omega), hk'⟩
      case round =>
        clear hS2 hk' HS
        obtain ⟨r, sz2, hr1, hr2, hgr, hS, hk⟩ := hrel
        have r0 : (0 : Int) ≤ (r : Int) := by omega
        have r1 : (r : Int) < (L : Int) := by omega
        by_cases hd : r < tg
        · have hd' : (r : Int) < (tg : Int) := by omega
          go_wp2_with fail
          refine (place_o hS i0 i1 r0 r1).mono ?_
          rintro e w2 ⟨rfl, hk2⟩
          have hS2 := hS.keeps hk2
          go_wp2_with fail
          refine (place_o hS2 i0 i1 r0 r1).mono ?_
          rintro e w3 ⟨rfl, hk3⟩
          have hS3 := hS2.keeps hk3
          go_wp2_with fail
          refine (exch_o hS3 (p := r) (by omega) (by omega)).mono ?_
          rintro e w4 ⟨rfl, ⟨sz4, hS4⟩, hk4⟩
          go_wp2_with fail
          go_roundg (tg - (r + 1))
          case measure => omega
          case rel =>
            refine ⟨r + 1, sz4, by omega, by omega, rfl, ?_, (hk.trans ((hk2.trans hk3).mono (by simp))).trans hk4⟩
            have e5 : ((r + 1 : Nat) : Int) = (r : Int) + 1 := by omega
            refine (hS4.congr (fun k k0 k1 => ?_)).mono (by omega)
            rw [e5]
            exact ins_up rest i r k
        · have er : r = tg := by omega
          subst er
          have hd' : ¬ (r : Int) < (r : Int) := by omega
          go_wp2_with fail
          refine (place_o hS i0 i1 r0 r1).mono ?_
          rintro e w2 ⟨rfl, hk2⟩
          have hS2 := hS.keeps hk2
          go_wp2_with fail
          go_end0
          exact ⟨rfl, ⟨sz2, hS2.mono (by omega)⟩, hk.trans (hk2.mono (by simp))⟩

end Go.Proofs.Ytmgjegokkbghlaa

namespace Go.Proofs.Ytmgjegokkbghlaa
open Go.RowKit Go.Maps Bdd
attribute [local go_sem ↓] Go.wp_at_zero Go.wp_at_succ

/-- an order out of an order, a variable moved -/
theorem StO.rest {w : World} {s hb t bn bm blk L nh sz : Nat} {lim given lb : Int} {V : Int → Option Fun} {c : Int → Int} (h : StO w s hb t bn bm blk L nh lim given V lb c sz) {i : Int} (i0 : 0 ≤ i) (i1 : i < (L : Int)) : ∃ (rest : Int → Int) (p : Nat), p < L ∧ StO w s hb t bn bm blk L nh lim given V lb (ins rest i p) sz ∧ (∀ k, 0 ≤ k → k < (L : Int) → ins rest i p k = c k) := by
  obtain ⟨od, hS, hb, hI⟩ := h
  have h1 := isAt_rest od i0 i1
  obtain ⟨a0, a1, a2⟩ := od.r2 i i0 i1
  refine ⟨restOf od i, (od.lv i).toNat, by omega, ⟨od, hS, hb, ?_⟩, fun k k0 k1 => ?_⟩
  · rw [Int.toNat_of_nonneg a0]; exact h1
  · rw [Int.toNat_of_nonneg a0, ← h1 k k0 k1, hI k k0 k1]

theorem len_o {w : World} {s hb t bn bm blk L nh sz : Nat} {lim given lb : Int} {V : Int → Option Fun} {c : Int → Int} (h : StO w s hb t bn bm blk L nh lim given V lb c sz) : w.cell? ⟨s, 4, none⟩ = some (.pointer (some ⟨t, 0, none⟩)) ∧ ∀ w', Keeps [] w w' → Calls Try.prog 59 #[.pointer (some ⟨t, 0, none⟩)] w' fun e w'' => e = .returned (.int .i64 (sz : Int)) ∧ w' = w'' := by
  obtain ⟨od, ⟨N, last, H, hst, _⟩, _⟩ := h
  exact ⟨hst.c4, fun w' hk => (len_any (hst.keeps hk).tab).mono (fun e w'' hh => by obtain ⟨h1, h2⟩ := hh; exact ⟨h1, by first | exact h2 | exact h2.symm⟩)⟩
theorem order_o {w : World} {s hb t bn bm blk L nh sz : Nat} {lim given lb : Int} {V : Int → Option Fun} {c : Int → Int} (h : StO w s hb t bn bm blk L nh lim given V lb c sz) : L ≤ 8 ∧ 0 < L ∧ (∃ cap, w.cell? ⟨s, 2, none⟩ = some (.slice (some ⟨blk, 0, none⟩) L cap)) ∧ w.cell? ⟨s, 0, none⟩ = some (.int .i64 lim) ∧ (∀ k : Nat, k < L → w.cell? ⟨blk, k, none⟩ = some (.int .i64 (c k))) ∧ (∀ x ∈ [s, hb, t, bn, bm, blk], x < w.heap.size) ∧ s ∉ [t, bn, bm, blk] := by
  obtain ⟨od, ⟨N, last, H, hst, _⟩, rfl, hI⟩ := h
  refine ⟨by have := hst.tab.wf.tops; omega, hst.pos, ⟨_, hst.c2⟩, hst.c0, fun k hk => ?_, hst.lts, ?_⟩
  · rw [(hst.ord k hk).1, hI k (by omega) (by omega)]
  · simp; exact ⟨hst.n3, hst.tab.names.ne_cell hst.c0, hst.tab.nodes.ne_cell hst.c0, fun e => hst.n4 e.symm⟩

set_option maxRecDepth 100000 in
set_option maxHeartbeats 1000000 in
theorem settle_any {w : World} {s hb t bn bm blk L nh sz : Nat} {lim given lb : Int} {V : Int → Option Fun} {rest : Int → Int} {i : Int} {p : Nat} (h : StO w s hb t bn bm blk L nh lim given V lb (ins rest i p) sz) (i0 : 0 ≤ i) (i1 : i < (L : Int)) (p1 : p < L) (hlb : lb + 4000000 ≤ 4611686018427387904) :
    Calls Try.prog 63 #[.pointer (some ⟨s, 0, none⟩), .int .i64 i] w fun e w' => ∃ (q sz' : Nat) (b : Bool), e = .returned (.bool b) ∧ q < L ∧ StO w' s hb t bn bm blk L nh lim given V (lb + 4000000) (ins rest i q) sz' ∧ (b = true → sz' < sz) ∧ (b = false → sz' = sz) ∧ Keeps [t, bn, bm, blk] w w' := by
  obtain ⟨hL8, hL0, ⟨cap, c2⟩, c0, hord, hlts, hns⟩ := order_o h
  obtain ⟨c4, hlen⟩ := len_o h
  have HS : Hid (StO w s hb t bn bm blk L nh lim given V lb (ins rest i p) sz) := h
  have HLEN : Hid (∀ w', Keeps [] w w' → Calls Try.prog 59 #[.pointer (some ⟨t, 0, none⟩)] w' fun e w'' => e = .returned (.int .i64 (sz : Int)) ∧ w' = w'') := hlen
  clear h hlen
  go_enter Try.func63, Try.ntmps63
  go_wp2_with fail
  refine (HLEN.out _ (Keeps.refl _ _)).mono ?_
  rintro e w1 ⟨rfl, rfl⟩
  go_wp2_with fail
  refine (place_o HS.out i0 i1 (by omega) (by omega)).mono ?_
  rintro e w2 ⟨rfl, hk2⟩
  have HS2 : Hid (StO w2 s hb t bn bm blk L nh lim given V lb (ins rest i p) sz) := HS.out.keeps hk2
  have c2' := hk2.cell c2 (by simp)
  clear HLEN
  go_wp2_with fail
  go_loopw [6, 7, 8, 9, 24] (fun vb vf _ _ i' wx => ∃ (j q bs fw szq : Nat) (wz : World) (lbz : Int), j ≤ L ∧ i' = .int .i64 j ∧ vb = .int .i64 bs ∧ vf = .int .i64 fw ∧ q < L ∧ bs < L ∧ fw ≤ sz ∧ Hid (StO wx s hb t bn bm blk L nh lim given V (lb + 400000 * j) (ins rest i q) szq) ∧ Hid (StO wz s hb t bn bm blk L nh lim given V lbz (ins rest i bs) fw) ∧ Keeps [t, bn, bm, blk] w wx) (fun _ _ _ _ i' _ => L - (intOf i').toNat)
  case atStart => exact ⟨0, p, p, sz, sz, w2, lb, by omega, rfl, rfl, rfl, p1, p1, Nat.le_refl _, HS2.out.mono (by omega), HS2.out, hk2.mono (by simp)⟩
  case round =>
    clear HS HS2
    obtain ⟨j, q, bs, fw, szq, wz, lbz, hj, rfl, rfl, rfl, hq, hbs, hfw, hS, hZ, hk⟩ := hrel
    by_cases hlt : j < L
    · have hj0 : (0 : Int) ≤ (j : Int) := by omega
      have hj1 : (j : Int) < (L : Int) := by omega
      go_wp2_with fail
      refine (move_any hS.out i0 i1 hq hlt hL8 (by omega)).mono ?_
      rintro e w3 ⟨rfl, ⟨sz3, hS3⟩, hk3⟩
      obtain ⟨d4, hlen3⟩ := len_o hS3
      have hlen3' := hlen3 w3 (Keeps.refl _ _)
      have HS3 : Hid (StO w3 s hb t bn bm blk L nh lim given V (lb + 400000 * j + 400000) (ins rest i j) sz3) := hS3
      clear hlen3 hS3
      have hkk := hk.trans hk3
      by_cases hn : sz3 < fw
      · have hn' : (sz3 : Int) < (fw : Int) := by omega
        go_wp2_with fail
        refine hlen3'.mono ?_
        rintro e w4 ⟨rfl, rfl⟩
        go_wp2_with fail
        go_roundw
        case rel => exact ⟨j + 1, j, j, sz3, sz3, w3, _, by omega, by go_num, rfl, rfl, hlt, hlt, by omega, HS3.out.mono (by omega), HS3.out, hkk⟩
        case measure => simp [intOf]; omega
      · have hn' : ¬ (sz3 : Int) < (fw : Int) := by omega
        go_wp2_with fail
        refine hlen3'.mono ?_
        rintro e w4 ⟨rfl, rfl⟩
        go_wp2_with fail
        go_roundw
        case rel => exact ⟨j + 1, j, bs, fw, sz3, wz, lbz, by omega, by go_num, rfl, rfl, hlt, hbs, hfw, HS3.out.mono (by omega), hZ, hkk⟩
        case measure => simp [intOf]; omega
    · have ej : j = L := by omega
      subst ej
      go_wp2_with fail
      refine (move_any hS.out i0 i1 hq hbs hL8 (by omega)).mono ?_
      rintro e w3 ⟨rfl, ⟨sz3, hS3⟩, hk3⟩
      have hsz := hS3.size hZ.out (fun _ _ _ => rfl)
      subst hsz
      have HS3 : Hid (StO w3 s hb t bn bm blk j nh lim given V (lb + 400000 * j + 400000) (ins rest i bs) sz3) := hS3
      clear hS3
      go_wp2_with fail
      go_ret
      refine ⟨bs, sz3, _, rfl, hbs, HS3.out.mono (by omega), fun hb => ?_, fun hb => ?_, hk.trans hk3⟩
      · simp at hb; omega
      · simp at hb; omega

set_option maxRecDepth 100000 in
set_option maxHeartbeats 1000000 in
theorem sift_any {w : World} {s hb t bn bm blk L nh sz : Nat} {lim given lb : Int} {V : Int → Option Fun} {c : Int → Int} (h : StO w s hb t bn bm blk L nh lim given V lb c sz) (hszb : sz ≤ 20000) (hlb : lb + 40000000 * 20001 ≤ 4611686018427387904) :
    Calls Try.prog 32 #[.pointer (some ⟨s, 0, none⟩)] w fun e w' => ∃ (c' : Int → Int) (sz' : Nat), e = .returned (.tuple #[]) ∧ StO w' s hb t bn bm blk L nh lim given V (lb + 40000000 * 20001) c' sz' ∧ sz' ≤ sz ∧ Keeps [t, bn, bm, blk] w w' := by
  obtain ⟨hL8, hL0, ⟨cap, c2⟩, c0, hord, hlts, hns⟩ := order_o h
  have HS : Hid (StO w s hb t bn bm blk L nh lim given V lb c sz) := h
  clear h
  go_enter Try.func32, Try.ntmps32
  go_wp2_with fail
  go_step3
  go_wp2_with fail
  go_step3
  go_wp2_with fail
  go_loopg [] sz (fun g wx => ∃ (c' : Int → Int) (sz' : Nat), g = sz' ∧ sz' ≤ sz ∧ Hid (StO wx s hb t bn bm blk L nh lim given V (lb + 40000000 * ((sz : Int) - sz')) c' sz') ∧ Keeps [t, bn, bm, blk] w wx)
  case atStart => exact ⟨c, sz, rfl, Nat.le_refl _, HS.out.mono (by omega), Keeps.refl _ _⟩
  case round =>
    clear HS
    obtain ⟨c', sz', hg, hsz, hS, hk⟩ := hrel
    have d2 := hk.cell c2 hns
    obtain ⟨wA, rfl⟩ : ∃ wA, wA = wr := ⟨wr, rfl⟩
    go_wp2_with fail
    go_loopg [2, 8] L (fun g2 _ s8 wx => ∃ (j : Nat) (c'' : Int → Int), j + g2 = L ∧ s8 = .int .i64 j ∧ Hid (StO wx s hb t bn bm blk L nh lim given V (lb + 40000000 * ((sz : Int) - sz') + 4000000 * j) c'' sz') ∧ Keeps [t, bn, bm, blk] w wx)
    case atStart => exact ⟨0, c', by omega, rfl, hS.out.mono (by omega), hk⟩
    case round =>
      clear hS hk d2
      obtain ⟨j, c'', hj, rfl, hS, hk⟩ := hrel
      by_cases hlt : j < L
      · have hj0 : (0 : Int) ≤ (j : Int) := by omega
        have hj1 : (j : Int) < (L : Int) := by omega
        obtain ⟨rest, p, hp, hS2, _⟩ := hS.out.rest hj0 hj1
        have hcall := settle_any hS2 hj0 hj1 hp (by omega)
        clear hS hS2
        go_wp2_with fail
        refine hcall.mono ?_
        rintro e w3 ⟨q, sz3, b, rfl, hq, hS3, hb1, hb2, hk3⟩
        have HS3 : Hid (StO w3 s hb t bn bm blk L nh lim given V (lb + 40000000 * ((sz : Int) - sz') + 4000000 * j + 4000000) (ins rest j q) sz3) := hS3
        clear hS3
        cases b with
        | true =>
          have hless := hb1 rfl
          clear hb1 hb2
          go_wp2_with fail
          go_roundg sz3
          case measure => omega
          case rel => exact ⟨_, sz3, rfl, by omega, HS3.out.mono (by omega), hk.trans hk3⟩
        | false =>
          have hsame := hb2 rfl
          subst hsame
          clear hb1 hb2
          go_wp2_with fail
          go_roundg (L - (j + 1))
          case measure => omega
          case rel => exact ⟨j + 1, _, by omega, by go_num, HS3.out.mono (by omega), hk.trans hk3⟩
      · have ej : j = L := by omega
        subst ej
        go_wp2_with fail
        (first | rw [Exit.noGoto_normal] | simp only [Exit.noGoto])
        go_end0
        exact ⟨c'', sz', rfl, hS.out.mono (by omega), hsz, hk⟩

end Go.Proofs.Ytmgjegokkbghlaa

namespace Go.Proofs.Ytmgjegokkbghlaa
open Go.RowKit Go.Maps Bdd
attribute [local go_sem ↓] Go.wp_at_zero Go.wp_at_succ

/-- a list of numbers that is an order -/
structure IsOrd (L : Nat) (d : Int → Int) : Prop where
  range : ∀ k, 0 ≤ k → k < (L : Int) → 0 ≤ d k ∧ d k < (L : Int)
  inj : ∀ j k, 0 ≤ j → j < (L : Int) → 0 ≤ k → k < (L : Int) → d j = d k → j = k

theorem StO.inj {w : World} {s hb t bn bm blk L nh sz : Nat} {lim given lb : Int} {V : Int → Option Fun} {c : Int → Int} (h : StO w s hb t bn bm blk L nh lim given V lb c sz) : IsOrd L c := by
  obtain ⟨od, _, _, hI⟩ := h
  refine ⟨fun k k0 k1 => ?_, fun j k j0 j1 k0 k1 e => ?_⟩
  · rw [← hI k k0 k1]; obtain ⟨a, b, _⟩ := od.r1 k k0 k1; exact ⟨a, b⟩
  · rw [← hI j j0 j1, ← hI k k0 k1] at e
    have h1 := (od.r1 j j0 j1).2.2
    have h2 := (od.r1 k k0 k1).2.2
    rw [e, h2] at h1
    exact h1.symm

set_option maxRecDepth 100000 in
set_option maxHeartbeats 1000000 in
theorem arrange_any {w : World} {s hb t bn bm blk L nh sz b o cap : Nat} {lim given lb : Int} {V : Int → Option Fun} {c d : Int → Int} (h : StO w s hb t bn bm blk L nh lim given V lb c sz) (hd : IsOrd L d) (hl : NumsIn w b o L d) (hbS : b ∉ [t, bn, bm, blk]) (hlb : lb + 4000000 ≤ 4611686018427387904) :
    Calls Try.prog 61 #[.pointer (some ⟨s, 0, none⟩), .slice (some ⟨b, o, none⟩) L cap] w fun e w' => e = .returned (.tuple #[]) ∧ (∃ sz', StO w' s hb t bn bm blk L nh lim given V (lb + 4000000) d sz') ∧ Keeps [t, bn, bm, blk] w w' := by
  obtain ⟨hL8, hL0, _, _, _, _, _⟩ := order_o h
  have HS : Hid (StO w s hb t bn bm blk L nh lim given V lb c sz) := h
  have HD : Hid (IsOrd L d) := hd
  have HL : Hid (NumsIn w b o L d) := hl
  clear h hd hl
  go_enter Try.func61, Try.ntmps61
  go_wp2_with fail
  go_loopw [8] (fun i' wx => ∃ (j : Nat) (c' : Int → Int) (sz' : Nat), j ≤ L ∧ i' = .int .i64 j ∧ Hid (StO wx s hb t bn bm blk L nh lim given V (lb + 400000 * j) c' sz') ∧ Hid (∀ k, 0 ≤ k → k < (j : Int) → c' k = d k) ∧ Keeps [t, bn, bm, blk] w wx) (fun i' _ => L - (intOf i').toNat)
  case atStart => exact ⟨0, c, sz, by omega, rfl, HS.out.mono (by omega), fun k k0 k1 => by omega, Keeps.refl _ _⟩
  case round =>
    clear HS
    obtain ⟨j, c', sz', hj, rfl, hS, hC, hk⟩ := hrel
    by_cases hlt : j < L
    · have hj0 : (0 : Int) ≤ (j : Int) := by omega
      have hj1 : (j : Int) < (L : Int) := by omega
      have hcj := hk.cell (HL.out j hlt) hbS
      obtain ⟨x0, x1⟩ := HD.out.range j hj0 hj1
      obtain ⟨rest, p, hp, hS2, hrest⟩ := hS.out.rest x0 x1
      have hpj : j ≤ p := by
        apply Classical.byContradiction
        intro hn
        have h1 := hrest p (by omega) (by omega)
        have e : ins rest (d j) p p = d j := by unfold ins; rw [if_neg (by omega), if_pos rfl]
        rw [e, hC.out p (by omega) (by omega)] at h1
        have := HD.out.inj j p hj0 hj1 (by omega) (by omega) h1
        omega
      have HN : Hid (∀ k, 0 ≤ k → k < ((j + 1 : Nat) : Int) → ins rest (d j) j k = d k) := by
        intro k k0 k1
        by_cases e : k = j
        · subst e; unfold ins; rw [if_neg (by omega), if_pos rfl]
        · have h1 := hrest k k0 (by omega)
          rw [hC.out k k0 (by omega)] at h1
          rw [← h1]
          unfold ins
          rw [if_pos (by omega), if_pos (by omega)]
      obtain ⟨x, hx⟩ : ∃ x, x = d j := ⟨_, rfl⟩
      rw [← hx] at hcj hS2 x0 x1 HN
      have hcall := move_any hS2 x0 x1 hp hlt hL8 (by omega)
      clear hS hC hS2 hrest hx
      go_wp2_with fail
      refine hcall.mono ?_
      rintro e w3 ⟨rfl, ⟨sz3, hS3⟩, hk3⟩
      go_wp2_with fail
      go_roundw
      case rel => exact ⟨j + 1, _, sz3, by omega, by go_num, hS3.mono (by omega), HN.out, hk.trans hk3⟩
      case measure => simp [intOf]; omega
    · have ej : j = L := by omega
      subst ej
      go_wp2_with fail
      go_end0
      exact ⟨rfl, ⟨sz', (hS.out.congr hC.out).mono (by omega)⟩, hk⟩

set_option maxRecDepth 100000 in
set_option maxHeartbeats 1000000 in
theorem isOrder_any {w : World} {s hb t bn bm blk L nh sz b o cap : Nat} {lim given lb : Int} {V : Int → Option Fun} {c d : Int → Int} (h : StO w s hb t bn bm blk L nh lim given V lb c sz) (hl : NumsIn w b o L d) :
    Calls Try.prog 60 #[.pointer (some ⟨s, 0, none⟩), .slice (some ⟨b, o, none⟩) L cap] w fun e w' => ∃ r : Bool, e = .returned (.bool r) ∧ (r = true ↔ ∀ k, 0 ≤ k → k < (L : Int) → ∃ j : Nat, j < L ∧ d (j : Int) = c k) ∧ Keeps [] w w' := by
  obtain ⟨hL8, hL0, ⟨ocap, c2⟩, _, hord, _, _⟩ := order_o h
  have HL : Hid (NumsIn w b o L d) := hl
  have HO : Hid (∀ k : Nat, k < L → w.cell? ⟨blk, k, none⟩ = some (.int .i64 (c k))) := hord
  clear h hl hord
  go_enter Try.func60, Try.ntmps60
  go_wp2_with fail
  go_loopw [20] (fun i' wx => ∃ j : Nat, j ≤ L ∧ i' = .int .i64 j ∧ Hid (∀ k : Nat, k < j → ∃ m : Nat, m < L ∧ d (m : Int) = c (k : Int)) ∧ Keeps [] w wx) (fun i' _ => L - (intOf i').toNat)
  case atStart => exact ⟨0, by omega, rfl, fun k hk => by omega, Keeps.refl _ _⟩
  case round =>
    obtain ⟨j, hj, rfl, hA, hk⟩ := hrel
    by_cases hlt : j < L
    · have hj0 : (0 : Int) ≤ (j : Int) := by omega
      have hj1 : (j : Int) < (L : Int) := by omega
      have hcj := hk.cell (HO.out j hlt) (by simp)
      obtain ⟨x, hx⟩ : ∃ x, x = c (j : Int) := ⟨_, rfl⟩
      rw [← hx] at hcj
      have HX : Hid (x = c (j : Int)) := hx
      clear hx
      have hcall := contains_any (cap := cap) (HL.out.keeps hk (by simp)) (by omega) x
      go_wp2_with fail
      refine hcall.mono ?_
      rintro e w2 ⟨r, hr, rfl, hk2⟩
      clear hcall
      cases r with
      | true =>
        have HR : Hid (∃ k : Nat, k < L ∧ d (k : Int) = x) := hr.1 rfl
        clear hr
        go_wp2_with fail
        go_roundw
        case rel =>
          refine ⟨j + 1, by omega, by go_num, fun k hk' => ?_, hk.trans hk2⟩
          by_cases e : k = j
          · subst e; rw [← HX.out]; exact HR.out
          · exact hA.out k (by omega)
        case measure => simp [intOf]; omega
      | false =>
        have HR : Hid (¬ ∃ k : Nat, k < L ∧ d (k : Int) = x) := fun h => absurd (hr.2 h) (by simp)
        clear hr
        go_wp2_with fail
        go_ret
        refine ⟨false, rfl, ⟨(fun h => absurd h (by simp)), (fun h => ?_)⟩, hk.trans hk2⟩
        exact absurd (by rw [HX.out]; exact h j hj0 hj1) HR.out
    · have ej : j = L := by omega
      subst ej
      go_wp2_with fail
      go_ret
      refine ⟨true, rfl, ⟨fun _ k k0 k1 => ?_, fun _ => rfl⟩, hk⟩
      obtain ⟨m, rfl⟩ := Int.eq_ofNat_of_zero_le k0
      exact hA.out m (by omega)

end Go.Proofs.Ytmgjegokkbghlaa

namespace Go.Proofs.Ytmgjegokkbghlaa
open Go.RowKit Go.Maps Bdd
attribute [local go_sem ↓] Go.wp_at_zero Go.wp_at_succ

def listV (c : Int → Int) (L : Nat) : List Value := (List.range L).map fun k : Nat => .int .i64 (c (k : Int))
theorem infoInt2 : (Try.prog.info? 3).map (fun i => (i.zero, i.size, i.bytes)) = some (some (.int .i64 0), 1, 8) := by kernel_rfl

set_option maxRecDepth 100000 in
set_option maxHeartbeats 1000000 in
theorem clone_any {w : World} {b L cap : Nat} {c : Int → Int} (hl : NumsIn w b 0 L c) (hL0 : 0 < L) (hL8 : L ≤ 8) :
    Calls Try.prog 62 #[.slice (some ⟨b, 0, none⟩) L cap] w fun e w' => ∃ g cp, e = .returned (.slice (some ⟨g, 0, none⟩) L cp) ∧ w.heap.size ≤ g ∧ g < w'.heap.size ∧ NumsIn w' g 0 L c ∧ Keeps [] w w' := by
  obtain ⟨i0, hi, hz0, hz1, hz2⟩ := info_parts infoInt2
  have hml : 100 < maxLen := by decide
  have hnl : (listV c L).length = L := by simp [listV]
  have hcl : ∀ j u, (listV c L)[j]? = some u → w.cell? ((⟨b, 0, none⟩ : Addr).add j) = some u := by
    intro j u hj
    have hjl : j < L := by have := (List.getElem?_eq_some_iff.1 hj).1; rw [hnl] at this; exact this
    rw [Addr.add_mid, hl j hjl]
    simp [listV, hjl] at hj
    rw [hj]
  have h1c : ∀ u ∈ listV c L, u.oneCell' = true := by
    intro u hu
    obtain ⟨k, _, rfl⟩ := List.mem_map.1 hu
    rfl
  have HNL : Hid ((listV c L).length = L * 1) := by show _ = _; rw [hnl, Nat.mul_one]
  have HCL : Hid (∀ j u, (listV c L)[j]? = some u → w.cell? ((⟨b, 0, none⟩ : Addr).add j) = some u) := hcl
  have hLi : (0 : Int) < (L : Int) := by omega
  clear hnl hcl hl
  have q22 : ∀ (w : World) (a : Option Addr) (n c n' c' : Nat), (binOp .eql 22 (.slice a n c) (.slice none n' c')).run Try.prog w = .ok (.bool a.isNone) w := fun w a n c n' c' => Lib.run_eql_slice_nil w _ _ a n c n' c' Try.underlying22
  go_enter Try.func62, Try.ntmps62
  go_wp2_with (first
    | (at_builtin; refine wpList_append_grows _ rfl _ _ 22 rfl 3 i0 (.int .i64 0) 1 8 Try.underlying22 hi hz0 hz1 hz2 rfl (by decide) (some ⟨w.heap.size, 0, none⟩) 0 0 [] rfl (by simp) (by simp) (by simp) ⟨b, 0, none⟩ L cap (listV c L) rfl HNL.out (fun j u hj => (((Keeps.refl [] w).alloc _).cell (HCL.out j u hj) (by simp))) h1c (by omega) (by omega) (by omega) ?_; intro v' w2 hown hgrow)
    | fail)
  obtain ⟨g, cp, hv, hg⟩ : ∃ g cp, v' = .slice (some ⟨g, 0, none⟩) L cp ∧ w.heap.size ≤ g := by
    rcases hown.2 with ⟨_, h0⟩ | ⟨g, cp, cur, hv, hb, _⟩
    · omega
    · exact ⟨g, cp, by rw [hv, Nat.zero_add], by simp at hb; omega⟩
  subst hv
  go_ret
  have hown' := hown
  simp only [Nat.zero_add, List.nil_append] at hown'
  refine ⟨g, cp, rfl, hg, (hown.lt g rfl).2, fun k hk => ?_, ((Keeps.refl _ _).alloc _).grown hgrow (by simp)⟩
  rw [Nat.zero_add, hown'.cellAt k (by omega)]
  simp [listV, hk]

theorem order_any {w : World} {s hb t bn bm blk L nh sz : Nat} {lim given lb : Int} {V : Int → Option Fun} {c : Int → Int} (h : StO w s hb t bn bm blk L nh lim given V lb c sz) :
    Calls Try.prog 31 #[.pointer (some ⟨s, 0, none⟩)] w fun e w' => ∃ g cp, e = .returned (.slice (some ⟨g, 0, none⟩) L cp) ∧ w.heap.size ≤ g ∧ g < w'.heap.size ∧ NumsIn w' g 0 L c ∧ Keeps [] w w' := by
  obtain ⟨hL8, hL0, ⟨cap, c2⟩, _, hord, _, _⟩ := order_o h
  have hl : NumsIn w blk 0 L c := fun k hk => by rw [Nat.zero_add]; exact hord k hk
  have hcall := clone_any (cap := cap) hl hL0 hL8
  clear hord hl h
  go_enter Try.func31, Try.ntmps31
  go_wp2_with fail
  refine hcall.mono ?_
  rintro e w1 ⟨g, cp, rfl, hg, hg2, hn, hk⟩
  go_wp2_with fail
  go_ret
  exact ⟨g, cp, rfl, hg, hg2, hn, hk⟩

set_option maxRecDepth 100000 in
set_option maxHeartbeats 1000000 in
theorem reorder_ok {w : World} {s hb t bn bm blk L nh sz b o cap : Nat} {lim given lb : Int} {V : Int → Option Fun} {c d : Int → Int} (h : StO w s hb t bn bm blk L nh lim given V lb c sz) (hd : IsOrd L d) (hsur : ∀ k, 0 ≤ k → k < (L : Int) → ∃ j : Nat, j < L ∧ d (j : Int) = k) (hl : NumsIn w b o L d) (hbS : b ∉ [t, bn, bm, blk]) (hroom : ((nh * (pw L - 1) : Nat) : Int) ≤ lim) (hlb : lb + 4000000 ≤ 4611686018427387904) :
    Calls Try.prog 30 #[.pointer (some ⟨s, 0, none⟩), .slice (some ⟨b, o, none⟩) L cap] w fun e w' => e = .returned (.int .i64 0) ∧ (∃ sz', StO w' s hb t bn bm blk L nh lim given V (lb + 4000000) d sz') ∧ Keeps [t, bn, bm, blk] w w' := by
  have hord := h.inj
  have hc1 := isOrder_any (cap := cap) h hl
  have HS : Hid (StO w s hb t bn bm blk L nh lim given V lb c sz) := h
  have HD : Hid (IsOrd L d) := hd
  have HL : Hid (NumsIn w b o L d) := hl
  have HSU : Hid (∀ k, 0 ≤ k → k < (L : Int) → ∃ j : Nat, j < L ∧ d (j : Int) = k) := hsur
  have HO : Hid (IsOrd L c) := hord
  clear h hd hl hsur hord
  go_enter Try.func30, Try.ntmps30
  go_wp2_with fail
  refine hc1.mono ?_
  rintro e w1 ⟨r, rfl, hr, hk1⟩
  have hrt : r = true := hr.2 (fun k k0 k1 => by obtain ⟨a, b⟩ := HO.out.range k k0 k1; exact HSU.out _ a b)
  subst hrt
  clear hr hc1
  have hS1 := HS.out.keeps hk1
  have hc2 := order_any hS1
  have HS1 : Hid (StO w1 s hb t bn bm blk L nh lim given V lb c sz) := hS1
  clear hS1
  go_wp2_with fail
  refine hc2.mono ?_
  rintro e w2 ⟨g, cp, rfl, hg, hg2, hng, hk2⟩
  have hS2 := HS1.out.keeps hk2
  have hc3 := arrange_any (cap := cap) hS2 HD.out ((HL.out.keeps hk1 (by simp)).keeps hk2 (by simp)) hbS hlb
  clear hc2 hS2 hng
  go_wp2_with fail
  refine hc3.mono ?_
  rintro e w3 ⟨rfl, ⟨sz3, hS3⟩, hk3⟩
  obtain ⟨d4, hlen⟩ := len_o hS3
  obtain ⟨_, _, _, d0, _, _, _⟩ := order_o hS3
  have HLEN : Hid (∀ w', Keeps [] w3 w' → Calls Try.prog 59 #[.pointer (some ⟨t, 0, none⟩)] w' fun e w'' => e = .returned (.int .i64 (sz3 : Int)) ∧ w' = w'') := hlen
  have hsz3 : (sz3 : Int) ≤ lim := by
    obtain ⟨od, ⟨N, last, H, hst, k1, k2, k3, k4, k5, k6⟩, _⟩ := hS3
    omega
  have HS3 : Hid (StO w3 s hb t bn bm blk L nh lim given V (lb + 4000000) d sz3) := hS3
  clear hc3 hS3 hlen
  go_wp2_with fail
  go_region_held3 (fun w' => w'.cell? ⟨s, 4, none⟩ = some (.pointer (some ⟨t, 0, none⟩)) ∧ w'.cell? ⟨s, 0, none⟩ = some (.int .i64 lim))
    (first | exact ⟨d4, d0⟩ | assumption)
    (first
      | (go_at_call 59; refine (HLEN.out _ ((Keeps.refl [] w3).drew)).mono ?_; rintro e w4 ⟨rfl, rfl⟩))
  go_wp2_with fail
  go_ret
  exact ⟨rfl, ⟨sz3, HS3.out.keeps ((Keeps.refl _ _).drew)⟩, (((hk1.trans hk2).mono (by simp)).trans hk3).drew⟩

end Go.Proofs.Ytmgjegokkbghlaa

namespace Go.Proofs.Ytmgjegokkbghlaa
open Go.RowKit Go.Maps Bdd
attribute [local go_sem ↓] Go.wp_at_zero Go.wp_at_succ

set_option maxRecDepth 100000 in
set_option maxHeartbeats 1000000 in
theorem reorder_bad {w : World} {s hb t bn bm blk L nh sz b o cap : Nat} {lim given lb : Int} {V : Int → Option Fun} {c d : Int → Int} (h : StO w s hb t bn bm blk L nh lim given V lb c sz) (hl : NumsIn w b o L d) {v : Int} (v0 : 0 ≤ v) (v1 : v < (L : Int)) (hno : ∀ j : Nat, j < L → d (j : Int) ≠ v) :
    Calls Try.prog 30 #[.pointer (some ⟨s, 0, none⟩), .slice (some ⟨b, o, none⟩) L cap] w fun e w' => e = .returned (.int .i64 6) ∧ Keeps [] w w' := by
  have hc1 := isOrder_any (cap := cap) h hl
  have hv : ∃ k, 0 ≤ k ∧ k < (L : Int) ∧ c k = v := by
    obtain ⟨od, _, _, hI⟩ := h
    obtain ⟨a0, a1, a2⟩ := od.r2 v v0 v1
    exact ⟨od.lv v, a0, a1, by rw [← hI _ a0 a1, a2]⟩
  have HN : Hid (∀ j : Nat, j < L → d (j : Int) ≠ v) := hno
  have HV : Hid (∃ k, 0 ≤ k ∧ k < (L : Int) ∧ c k = v) := hv
  clear h hl hno hv
  go_enter Try.func30, Try.ntmps30
  go_wp2_with fail
  refine hc1.mono ?_
  rintro e w1 ⟨r, rfl, hr, hk1⟩
  have hrt : r = false := by
    cases r with
    | false => rfl
    | true =>
      obtain ⟨k, k0, k1, hk⟩ := HV.out
      obtain ⟨j, hj, e⟩ := hr.1 rfl k k0 k1
      exact absurd (e.trans hk) (HN.out j hj)
  subst hrt
  clear hr hc1
  go_wp2_with fail
  go_ret
  exact ⟨rfl, hk1⟩

/-- an order of four, all there -/
structure Ord4 (d : Int → Int) : Prop where
  ord : IsOrd 4 d
  all : ∀ k, 0 ≤ k → k < ((4 : Nat) : Int) → ∃ j : Nat, j < 4 ∧ d (j : Int) = k
theorem ord4_id : Ord4 (fun k => k) := ⟨⟨fun k k0 k1 => ⟨k0, k1⟩, fun j k _ _ _ _ e => e⟩, fun k k0 k1 => ⟨k.toNat, by omega, by omega⟩⟩
def tau (a b k : Int) : Int := if k = b then a else if k = a then b else k
theorem tau_tau (a b k : Int) : tau a b (tau a b k) = k := by
  unfold tau
  by_cases e1 : k = b
  · rw [if_pos e1]
    by_cases e2 : a = b
    · rw [if_pos e2, e1, e2]
    · rw [if_neg e2, if_pos rfl, e1]
  · rw [if_neg e1]
    by_cases e2 : k = a
    · rw [if_pos e2, if_pos rfl, e2]
    · rw [if_neg e2, if_neg e1, if_neg e2]
theorem tau_in {a b k : Int} (a0 : 0 ≤ a) (a1 : a < 4) (b0 : 0 ≤ b) (b1 : b < 4) (k0 : 0 ≤ k) (k1 : k < 4) : 0 ≤ tau a b k ∧ tau a b k < 4 := by
  unfold tau
  split
  · omega
  · split <;> omega
theorem Ord4.swap {d : Int → Int} (h : Ord4 d) {a b : Int} (a0 : 0 ≤ a) (a1 : a < 4) (b0 : 0 ≤ b) (b1 : b < 4) : Ord4 (fun k => d (tau a b k)) := by
  refine ⟨⟨fun k k0 k1 => ?_, fun j k j0 j1 k0 k1 e => ?_⟩, fun k k0 k1 => ?_⟩
  · obtain ⟨t0, t1⟩ := tau_in a0 a1 b0 b1 k0 (by simpa using k1)
    exact h.ord.range _ t0 (by simpa using t1)
  · obtain ⟨t0, t1⟩ := tau_in a0 a1 b0 b1 j0 (by simpa using j1)
    obtain ⟨u0, u1⟩ := tau_in a0 a1 b0 b1 k0 (by simpa using k1)
    have := h.ord.inj _ _ t0 (by simpa using t1) u0 (by simpa using u1) e
    rw [← tau_tau a b j, this, tau_tau]
  · obtain ⟨j, hj, e⟩ := h.all k k0 k1
    obtain ⟨t0, t1⟩ := tau_in (k := (j : Int)) a0 a1 b0 b1 (by omega) (by omega)
    refine ⟨(tau a b j).toNat, by omega, ?_⟩
    show d (tau a b ((tau a b j).toNat : Int)) = k
    rw [Int.toNat_of_nonneg t0, tau_tau, e]
/-- a list of four numbers that may be written -/
def Four4 (w : World) (g : Nat) (d : Int → Int) : Prop := ∀ k : Nat, k < 4 → w.cell? ⟨g, k, none⟩ = some (.int .i64 (d k)) ∧ w.frozen? ⟨g, k, none⟩ = false
theorem Four4.drew {w : World} {g : Nat} {d : Int → Int} (h : Four4 w g d) : Four4 w.drew g d := h
theorem Four4.swap {w : World} {g : Nat} {d : Int → Int} (h : Four4 w g d) {a b : Nat} (ha : a < 4) (hb : b < 4) : Four4 ((w.setCell ⟨g, a, none⟩ (.int .i64 (d b))).setCell ⟨g, b, none⟩ (.int .i64 (d a))) g (fun k => d (tau a b k)) := by
  intro k hk
  refine ⟨?_, by rw [World.frozen?_setCell, World.frozen?_setCell]; exact (h k hk).2⟩
  show _ = some (Value.int .i64 (d (tau a b k)))
  by_cases e1 : k = b
  · subst e1
    have e : tau (a : Int) (k : Int) (k : Int) = (a : Int) := by unfold tau; rw [if_pos rfl]
    rw [e]
    by_cases e2 : k = a
    · subst e2
      exact World.cell?_setCell_same _ _ _ (World.cell?_setCell_same _ _ _ (h k hk).1)
    · refine World.cell?_setCell_same _ _ _ (u := .int .i64 (d k)) ?_
      rw [World.cell?_setCell_other _ _ _ _ (by first | (simp; done) | (simp; omega))]
      exact (h k hk).1
  · rw [World.cell?_setCell_other _ _ _ _ (by first | (simp; done) | (simp; omega))]
    by_cases e2 : k = a
    · subst e2
      have e : tau (k : Int) (b : Int) (k : Int) = (b : Int) := by unfold tau; rw [if_neg (by omega), if_pos rfl]
      rw [e]
      exact World.cell?_setCell_same _ _ _ (h k hk).1
    · have e : tau (a : Int) (b : Int) (k : Int) = (k : Int) := by unfold tau; rw [if_neg (by omega), if_neg (by omega)]
      rw [e, World.cell?_setCell_other _ _ _ _ (by first | (simp; done) | (simp; omega))]
      exact (h k hk).1

theorem fits_quo {z : Int} (h : Fits z) : Fits (wrap64 (z.tdiv 4)) := by
  unfold Fits at h
  have hb : -9223372036854775808 ≤ z.tdiv 4 ∧ z.tdiv 4 ≤ 9223372036854775807 := by
    by_cases h0 : 0 ≤ z
    · rw [Int.tdiv_eq_ediv_of_nonneg h0]; omega
    · obtain ⟨y, rfl⟩ : ∃ y, z = -y := ⟨-z, by omega⟩
      rw [Int.neg_tdiv, Int.tdiv_eq_ediv_of_nonneg (by omega)]; omega
  rw [IntWalk.wrap64_in _ ⟨by omega, by omega⟩]
  exact hb

set_option maxRecDepth 100000 in
set_option maxHeartbeats 4000000 in
theorem turned_any {w : World} {a0 : Option Addr} {len cap : Nat} {zs : Nat → Int} (hcode : len = 0 ∨ ∃ cb co, a0 = some ⟨cb, co, none⟩ ∧ IntsAt w cb co len zs) (hlen : (len : Int) ≤ 9223372036854775807) :
    Calls Try.prog 29 #[.slice a0 len cap] w fun e w' => ∃ (d : Int → Int), e = .returned (.slice (some ⟨w.heap.size, 0, none⟩) 4 4) ∧ Four4 w' w.heap.size d ∧ Ord4 d ∧ Keeps [] w w' := by
  have HC : Hid (len = 0 ∨ ∃ cb co, a0 = some ⟨cb, co, none⟩ ∧ IntsAt w cb co len zs) := hcode
  clear hcode
  obtain ⟨W, hW⟩ : ∃ W, W = w.alloc (.cells #[.int .i64 0, .int .i64 1, .int .i64 2, .int .i64 3] 3) := ⟨_, rfl⟩
  have hkW : Keeps [] w W := by rw [hW]; exact (Keeps.refl _ _).alloc _
  have hF : Four4 W w.heap.size (fun k => k) := by
    intro k hk
    rw [hW]
    refine ⟨?_, World.frozen?_alloc_at _ _ _ _ rfl⟩
    have : k = 0 ∨ k = 1 ∨ k = 2 ∨ k = 3 := by omega
    rcases this with rfl | rfl | rfl | rfl <;> simp
  have HF : Hid (Four4 W w.heap.size (fun k => k)) := hF
  have HW : Hid (W = w.alloc (.cells #[.int .i64 0, .int .i64 1, .int .i64 2, .int .i64 3] 3)) := hW
  have hlW : w.heap.size < W.heap.size := by rw [hW]; simp
  clear hW hF
  go_enter Try.func29, Try.ntmps29
  go_wp2_with fail
  rw [← HW.out]
  go_loopw [4, 5, 6] (fun i' _ _ wx => ∃ (j : Nat) (d : Int → Int), j ≤ len ∧ i' = .int .i64 j ∧ Hid (Four4 wx w.heap.size d) ∧ Hid (Ord4 d) ∧ Keeps [w.heap.size] W wx) (fun i' _ _ _ => len - (intOf i').toNat)
  case atStart => exact ⟨0, fun k => k, by omega, rfl, HF.out, ord4_id, Keeps.refl _ _⟩
  case round =>
    clear HF
    obtain ⟨j, d, hj, rfl, h4, hO, hk⟩ := hrel
    by_cases hlt : j < len
    · have hj0 : (0 : Int) ≤ (j : Int) := by omega
      have hj1 : (j : Int) < (len : Int) := by omega
      obtain ⟨cb, co, rfl, hI⟩ := HC.out.resolve_left (by omega)
      obtain ⟨hcell, hfit⟩ := hI j hlt
      have lcb : cb < w.heap.size := cell_lt (p := ⟨cb, co + j, none⟩) hcell
      have hcj := hk.cell (hkW.cell hcell (by simp)) (by simp; omega)
      obtain ⟨z, hz⟩ : ∃ z, z = zs j := ⟨_, rfl⟩
      rw [← hz] at hcj hfit
      clear hz hI hcell
      go_wp2_with fail
      refine (pick_any hfit (by omega) (by omega)).mono ?_
      rintro e w3 ⟨⟨a, rfl, ha0, ha1⟩, rfl⟩
      go_wp2_with fail
      refine (pick_any (fits_quo hfit) (by omega) (by omega)).mono ?_
      rintro e w3 ⟨⟨b, rfl, hb0, hb1⟩, rfl⟩
      obtain ⟨na, rfl⟩ := Int.eq_ofNat_of_zero_le ha0
      obtain ⟨nb, rfl⟩ := Int.eq_ofNat_of_zero_le hb0
      have la : na < 4 := by omega
      have lb : nb < 4 := by omega
      have p1 := (h4.out na la).1
      have p2 := (h4.out na la).2
      have p3 := (h4.out nb lb).1
      have p4 := (h4.out nb lb).2
      have h4' := h4.out.swap la lb
      have hO' := hO.out.swap (a := na) (b := nb) (by omega) (by omega) (by omega) (by omega)
      have H4' : Hid (Four4 ((wr.setCell ⟨w.heap.size, na, none⟩ (.int .i64 (d nb))).setCell ⟨w.heap.size, nb, none⟩ (.int .i64 (d na))) w.heap.size (fun k => d (tau na nb k))) := h4'
      have HO' : Hid (Ord4 (fun k => d (tau na nb k))) := hO'
      generalize d (na : Int) = xa at p1 H4'
      generalize d (nb : Int) = xb at p3 H4'
      obtain ⟨u5, p5⟩ : ∃ u, (wr.setCell ⟨w.heap.size, na, none⟩ (.int .i64 xb)).cell? ⟨w.heap.size, nb, none⟩ = some u := by
        by_cases e : nb = na
        · subst e; exact ⟨_, World.cell?_setCell_same _ _ _ p1⟩
        · exact ⟨_, by rw [World.cell?_setCell_other _ _ _ _ (by first | (simp; done) | (simp; omega))]; exact p3⟩
      clear h4' hO' hO
      go_wp2_with fail
      go_region
      all_goals
        go_wp2_with fail
        go_roundw
        case rel => exact ⟨j + 1, _, by omega, by go_num, H4'.out.drew, HO'.out, ((hk.setCell _ (Or.inl (by simp)) _).setCell _ (Or.inl (by simp)) _).drew⟩
        case measure => simp [intOf]; omega
    · have ej : j = len := by omega
      subst ej
      have hjj : ¬ (j : Int) < (j : Int) := by omega
      go_wp2_with fail
      go_ret
      first
        | exact ⟨d, rfl, h4.out, hO.out, ((hkW.mono (by simp)).trans hk).strike (by simp)⟩
        | exact ⟨rfl, d, h4.out, hO.out, ((hkW.mono (by simp)).trans hk).strike (by simp)⟩

end Go.Proofs.Ytmgjegokkbghlaa
