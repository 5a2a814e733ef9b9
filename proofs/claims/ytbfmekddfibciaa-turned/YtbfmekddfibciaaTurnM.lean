/- move of a store. -/
import Derived.Test.YtbfmekddfibciaaTurnX
import Derived.Test.YtbfmekddfibciaaSizeEq
import Derived.Deep.LoopGhost
namespace Go.Proofs.Ytbfmekddfibciaa
open Go.RowKit Go.Maps Bdd
attribute [local go_sem ↓] Go.wp_at_zero Go.wp_at_succ

/-- a variable at a place among the rest -/
def ins (rest : Int → Int) (i p k : Int) : Int := if k < p then rest k else if k = p then i else rest (k - 1)
theorem ins_down (rest : Int → Int) (i p k : Int) : ins rest i (p + 1) (swk p k) = ins rest i p k := by
  unfold ins swk
  by_cases e1 : k = p
  · subst e1
    rw [if_pos rfl, if_neg (by omega), if_pos rfl, if_neg (by omega), if_pos rfl]
  · rw [if_neg e1]
    by_cases e2 : k = p + 1
    · subst e2
      rw [if_pos rfl, if_pos (by omega), if_neg (by omega), if_neg (by omega)]
      congr 1
      omega
    · rw [if_neg e2]
      by_cases e3 : k < p
      · rw [if_pos (by omega), if_pos e3]
      · rw [if_neg (by omega), if_neg e2, if_neg e3, if_neg e1]
theorem ins_up (rest : Int → Int) (i p k : Int) : ins rest i p (swk p k) = ins rest i (p + 1) k := by
  rw [← ins_down rest i p (swk p k), swk_swk]
/-- the order is this one -/
def IsAt {L : Nat} (od : Ord L) (c : Int → Int) : Prop := ∀ k, 0 ≤ k → k < (L : Int) → od.at_ k = c k
def restOf {L : Nat} (od : Ord L) (i : Int) (k : Int) : Int := if k < od.lv i then od.at_ k else od.at_ (k + 1)
theorem isAt_rest {L : Nat} (od : Ord L) {i : Int} (i0 : 0 ≤ i) (i1 : i < (L : Int)) : IsAt od (ins (restOf od i) i (od.lv i)) := by
  intro k k0 k1
  unfold ins restOf
  by_cases e1 : k < od.lv i
  · rw [if_pos e1, if_pos e1]
  · rw [if_neg e1]
    by_cases e2 : k = od.lv i
    · rw [if_pos e2, e2, (od.r2 i i0 i1).2.2]
    · rw [if_neg e2, if_neg (by omega)]
      congr 1
      omega
theorem isAt_lv {L : Nat} {od : Ord L} {rest : Int → Int} {i p : Int} (h : IsAt od (ins rest i p)) (p0 : 0 ≤ p) (p1 : p < (L : Int)) : od.lv i = p := by
  have := h p p0 p1
  have e : ins rest i p p = i := by unfold ins; rw [if_neg (by omega), if_pos rfl]
  rw [e] at this
  rw [← this, (od.r1 p p0 p1).2.2]

theorem St.mono {w : World} {s hb t bn bm L nh sz : Nat} {od : Ord L} {lim given lb lb' : Int} {V : Int → Option Fun} (h : St w s hb t bn bm od nh sz lim given V lb) (hl : lb ≤ lb') : St w s hb t bn bm od nh sz lim given V lb' := by
  obtain ⟨N, last, H, z1, z2, z3, z4, z5, z6, z7⟩ := h
  exact ⟨N, last, H, z1, z2, z3, by omega, z5, z6, z7⟩
theorem placec_any {w : World} {s hb t bn bm L nh sz : Nat} {od : Ord L} {lim given lb : Int} {V : Int → Option Fun} (h : St w s hb t bn bm od nh sz lim given V lb) {i : Int} (h0 : 0 ≤ i) (h1 : i < (L : Int)) :
    Calls Try.prog 43 #[.pointer (some ⟨s, 0, none⟩), .int .i64 i] w fun e w' => e = .returned (.int .i64 (od.lv i)) ∧ Keeps [] w w' := by
  obtain ⟨N, last, H, hst, _⟩ := h
  exact place_any hst h0 h1

/-- a store whose order is told -/
def StO (w : World) (s hb t bn bm blk : Nat) (L nh : Nat) (lim given : Int) (V : Int → Option Fun) (lb : Int) (c : Int → Int) (sz : Nat) : Prop :=
  ∃ od : Ord L, St w s hb t bn bm od nh sz lim given V lb ∧ od.blk = blk ∧ IsAt od c
theorem StO.keeps {w w' : World} {s hb t bn bm blk L nh sz : Nat} {lim given lb : Int} {V : Int → Option Fun} {c : Int → Int} (h : StO w s hb t bn bm blk L nh lim given V lb c sz) (hk : Keeps [] w w') : StO w' s hb t bn bm blk L nh lim given V lb c sz := by
  obtain ⟨od, h1, h2, h3⟩ := h
  exact ⟨od, h1.keeps hk, h2, h3⟩
theorem StO.mono {w : World} {s hb t bn bm blk L nh sz : Nat} {lim given lb lb' : Int} {V : Int → Option Fun} {c : Int → Int} (h : StO w s hb t bn bm blk L nh lim given V lb c sz) (hl : lb ≤ lb') : StO w s hb t bn bm blk L nh lim given V lb' c sz := by
  obtain ⟨od, h1, h2, h3⟩ := h
  exact ⟨od, h1.mono hl, h2, h3⟩
theorem StO.size {w w' : World} {s hb t bn bm blk L nh sz sz' : Nat} {s' hb' t' bn' bm' blk' nh' : Nat} {lim given lb lim' given' lb' : Int} {V : Int → Option Fun} {c c' : Int → Int} (h : StO w s hb t bn bm blk L nh lim given V lb c sz) (h' : StO w' s' hb' t' bn' bm' blk' L nh' lim' given' V lb' c' sz') (hc : ∀ k, 0 ≤ k → k < (L : Int) → c k = c' k) : sz = sz' := by
  obtain ⟨od, h1, h2, h3⟩ := h
  obtain ⟨od', h1', h2', h3'⟩ := h'
  exact size_one h1 h1' (fun k k0 k1 => by rw [h3 k k0 k1, h3' k k0 k1, hc k k0 k1])
theorem StO.congr {w : World} {s hb t bn bm blk L nh sz : Nat} {lim given lb : Int} {V : Int → Option Fun} {c c' : Int → Int} (h : StO w s hb t bn bm blk L nh lim given V lb c sz) (hc : ∀ k, 0 ≤ k → k < (L : Int) → c k = c' k) : StO w s hb t bn bm blk L nh lim given V lb c' sz := by
  obtain ⟨od, h1, h2, h3⟩ := h
  exact ⟨od, h1, h2, fun k k0 k1 => (h3 k k0 k1).trans (hc k k0 k1)⟩

theorem exch_o {w : World} {s hb t bn bm blk L nh sz : Nat} {lim given lb : Int} {V : Int → Option Fun} {c : Int → Int} (h : StO w s hb t bn bm blk L nh lim given V lb c sz) {p : Nat} (h1 : (p : Int) + 1 < (L : Int)) (hlb : lb + 50000 ≤ 4611686018427387904) :
    Calls Try.prog 82 #[.pointer (some ⟨s, 0, none⟩), .int .i64 (p : Int)] w fun e w' => e = .returned (.tuple #[]) ∧ (∃ sz', StO w' s hb t bn bm blk L nh lim given V (lb + 50000) (fun k => c (swk p k)) sz') ∧ Keeps [t, bn, bm, blk] w w' := by
  obtain ⟨od, hS, rfl, hI⟩ := h
  refine (exchangec_any hS (by omega) h1 hlb).mono ?_
  rintro e w' ⟨rfl, ⟨sz', hS'⟩, hk⟩
  refine ⟨rfl, ⟨sz', _, hS', rfl, fun k k0 k1 => ?_⟩, hk⟩
  obtain ⟨a0, a1⟩ := swk_in (l := (p : Int)) (by omega) h1 k0 k1
  exact hI _ a0 a1
theorem place_o {w : World} {s hb t bn bm blk L nh sz : Nat} {lim given lb : Int} {V : Int → Option Fun} {rest : Int → Int} {i p : Int} (h : StO w s hb t bn bm blk L nh lim given V lb (ins rest i p) sz) (i0 : 0 ≤ i) (i1 : i < (L : Int)) (p0 : 0 ≤ p) (p1 : p < (L : Int)) :
    Calls Try.prog 43 #[.pointer (some ⟨s, 0, none⟩), .int .i64 i] w fun e w' => e = .returned (.int .i64 p) ∧ Keeps [] w w' := by
  obtain ⟨od, hS, rfl, hI⟩ := h
  have := placec_any hS i0 i1
  rw [isAt_lv hI p0 p1] at this
  exact this

set_option maxRecDepth 100000 in
set_option maxHeartbeats 1000000 in
theorem move_any {w : World} {s hb t bn bm blk L nh sz : Nat} {lim given lb : Int} {V : Int → Option Fun} {rest : Int → Int} {i : Int} {p tg : Nat} (h : StO w s hb t bn bm blk L nh lim given V lb (ins rest i p) sz) (i0 : 0 ≤ i) (i1 : i < (L : Int)) (p1 : p < L) (t1 : tg < L) (hL8 : L ≤ 8) (hlb : lb + 400000 ≤ 4611686018427387904) :
    Calls Try.prog 76 #[.pointer (some ⟨s, 0, none⟩), .int .i64 i, .int .i64 (tg : Int)] w fun e w' => e = .returned (.tuple #[]) ∧ (∃ sz', StO w' s hb t bn bm blk L nh lim given V (lb + 400000) (ins rest i tg) sz') ∧ Keeps [t, bn, bm, blk] w w' := by
  have HS : Hid (StO w s hb t bn bm blk L nh lim given V lb (ins rest i p) sz) := h
  clear h
  go_enter Try.func76, Try.ntmps76
  go_wp2_with fail
  go_loopg [] p (fun g wx => ∃ (q sz' : Nat), q ≤ p ∧ (tg ≤ q ∨ q = p) ∧ g = q ∧ StO wx s hb t bn bm blk L nh lim given V (lb + 50000 * ((p : Int) - q)) (ins rest i q) sz' ∧ Keeps [t, bn, bm, blk] w wx)
  case atStart => exact ⟨p, sz, Nat.le_refl _, Or.inr rfl, rfl, HS.out.mono (by omega), Keeps.refl _ _⟩
  case round =>
    obtain ⟨q, sz', hq, hqt, hgq, hS, hk⟩ := hrel
    have q0 : (0 : Int) ≤ (q : Int) := by omega
    have q1 : (q : Int) < (L : Int) := by omega
    by_cases hc : tg < q
    · have hc' : (tg : Int) < (q : Int) := by omega
      go_wp2_with fail
      refine (place_o hS i0 i1 q0 q1).mono ?_
      rintro e w2 ⟨rfl, hk2⟩
      have hS2 := hS.keeps hk2
      go_wp2_with fail
      refine (place_o hS2 i0 i1 q0 q1).mono ?_
      rintro e w3 ⟨rfl, hk3⟩
      have hS3 := hS2.keeps hk3
      obtain ⟨r, rfl⟩ : ∃ r, q = r + 1 := ⟨q - 1, by omega⟩
      have er : ((r + 1 : Nat) : Int) - 1 = (r : Int) := by omega
      go_wp2_with fail
      refine (exch_o hS3 (p := r) (by omega) (by omega)).mono ?_
      rintro e w4 ⟨rfl, ⟨sz4, hS4⟩, hk4⟩
      go_wp2_with fail
      go_roundg r
      case measure => omega
      case rel =>
        refine ⟨r, sz4, by omega, Or.inl (by omega), rfl, ?_, (hk.trans ((hk2.trans hk3).mono (by simp))).trans hk4⟩
        have e5 : ((r + 1 : Nat) : Int) = (r : Int) + 1 := by omega
        refine (hS4.congr (fun k k0 k1 => ?_)).mono (by omega)
        rw [e5]
        exact ins_down rest i r k
    · have hc' : (q : Int) ≤ (tg : Int) := by omega
      go_wp2_with fail
      refine (place_o hS i0 i1 q0 q1).mono ?_
      rintro e w2 ⟨rfl, hk2⟩
      have hS2 := hS.keeps hk2
      have hk' := hk.trans (hk2.mono (by simp))
      clear hS hgq
      obtain ⟨wA, rfl⟩ : ∃ wA, wA = w2 := ⟨w2, rfl⟩
      go_wp2_with fail
      go_loopg [] (tg - q) (fun g wx => ∃ (r sz' : Nat), q ≤ r ∧ r ≤ tg ∧ g = tg - r ∧ StO wx s hb t bn bm blk L nh lim given V (lb + 50000 * ((p : Int) - q) + 50000 * ((r : Int) - q)) (ins rest i r) sz' ∧ Keeps [t, bn, bm, blk] w wx)
      case atStart => exact ⟨q, sz', Nat.le_refl _, by omega, rfl, hS2.mono (by omega), hk'⟩
      case round =>
        clear hS2 hk' HS
        obtain ⟨r, sz2, hr1, hr2, hgr, hS, hk⟩ := hrel
        have r0 : (0 : Int) ≤ (r : Int) := by omega
        have r1 : (r : Int) < (L : Int) := by omega
        by_cases hd : r < tg
        · have hd' : (r : Int) < (tg : Int) := by omega
          go_wp2_with fail
          refine (place_o hS i0 i1 r0 r1).mono ?_
          rintro e w2 ⟨rfl, hk2⟩
          have hS2 := hS.keeps hk2
          go_wp2_with fail
          refine (place_o hS2 i0 i1 r0 r1).mono ?_
          rintro e w3 ⟨rfl, hk3⟩
          have hS3 := hS2.keeps hk3
          go_wp2_with fail
          refine (exch_o hS3 (p := r) (by omega) (by omega)).mono ?_
          rintro e w4 ⟨rfl, ⟨sz4, hS4⟩, hk4⟩
          go_wp2_with fail
          go_roundg (tg - (r + 1))
          case measure => omega
          case rel =>
            refine ⟨r + 1, sz4, by omega, by omega, rfl, ?_, (hk.trans ((hk2.trans hk3).mono (by simp))).trans hk4⟩
            have e5 : ((r + 1 : Nat) : Int) = (r : Int) + 1 := by omega
            refine (hS4.congr (fun k k0 k1 => ?_)).mono (by omega)
            rw [e5]
            exact ins_up rest i r k
        · have er : r = tg := by omega
          subst er
          have hd' : ¬ (r : Int) < (r : Int) := by omega
          go_wp2_with fail
          refine (place_o hS i0 i1 r0 r1).mono ?_
          rintro e w2 ⟨rfl, hk2⟩
          have hS2 := hS.keeps hk2
          go_wp2_with fail
          go_end0
          exact ⟨rfl, ⟨sz2, hS2.mono (by omega)⟩, hk.trans (hk2.mono (by simp))⟩

end Go.Proofs.Ytbfmekddfibciaa
