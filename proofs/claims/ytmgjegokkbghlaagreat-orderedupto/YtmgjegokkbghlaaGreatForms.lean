/- The closures of Restrict, Exists, Swap; findWith. The closure of Swap. The calls Restrict, Exists, Swap. The call Exists. -/
import Derived.Test.YtmgjegokkbghlaaGreatPerm
import Derived.Test.YtmgjegokkbghlaaGreatMakes
import Derived.Test.YtmgjegokkbghlaaGreatKnownIs
import Derived.Test.YtmgjegokkbghlaaGreatHoldRes
import Derived.Test.YtmgjegokkbghlaaGreatHoldExi
import Derived.Test.YtmgjegokkbghlaaGreatHoldSwa
import Derived.Test.YtmgjegokkbghlaaGreatFill
namespace Go.Proofs.YtmgjegokkbghlaaGreat
open Go.RowKit Go.Maps Bdd
attribute [local go_sem ↓] Go.wp_at_zero Go.wp_at_succ

open Classical in
noncomputable def exB (fr : Int → Bool) (F : Fun) : Fun := fun a => decide (ExP fr F a)
open Classical in
theorem exB_iff (fr : Int → Bool) (F : Fun) (a : Int → Bool) : exB fr F a = true ↔ ExP fr F a := by
  unfold exB
  exact decide_eq_true_iff

set_option maxRecDepth 100000 in
set_option maxHeartbeats 400000 in
theorem res1_any {w : World} {s hb t bn bm sz nh L c1 c2 c3 c4 : Nat} {od : Ord L} {lim given : Int} {N : Tab} {last : Int} {H : Int → Option Int} (h : StAt w s hb t bn bm sz nh od lim given N last H) {f i : Int} {v : Bool} (hf : Ok N 0 f) (h0 : 0 ≤ i) (h1 : i < L) (hb1 : last + 100000 ≤ 4611686018427387904) (hb2 : sz + 100000 < maxLen)
    (q1 : w.cell? ⟨c1, 0, none⟩ = some (.pointer (some ⟨s, 0, none⟩))) (q2 : w.cell? ⟨c2, 0, none⟩ = some (.int .i64 f)) (q3 : w.cell? ⟨c3, 0, none⟩ = some (.int .i64 i)) (q4 : w.cell? ⟨c4, 0, none⟩ = some (.bool v)) :
    Calls Tryz.prog 78 #[.pointer (some ⟨c1, 0, none⟩), .pointer (some ⟨c2, 0, none⟩), .pointer (some ⟨c3, 0, none⟩), .pointer (some ⟨c4, 0, none⟩)] w fun e w' => Gives w' t bn bm sz od N last (fun a => FV N od f (setAt a i v)) w e := by
  have c4' := h.c4
  obtain ⟨p0, p1, p2⟩ := od.r2 i h0 h1
  have n1 := h.tab.far q1 (fun _ e => by cases e)
  have n2 := h.tab.far q2 (fun _ e => by cases e)
  have n3 := h.tab.far q3 (fun _ e => by cases e)
  have n4 := h.tab.far q4 (fun _ e => by cases e)
  have n5 := h.farS
  go_enter Tryz.func78, Tryz.ntmps78
  go_wp2_with fail
  go_region_held3 (fun w' => w'.cell? ⟨c1, 0, none⟩ = some (.pointer (some ⟨s, 0, none⟩)) ∧ w'.cell? ⟨c2, 0, none⟩ = some (.int .i64 f) ∧ w'.cell? ⟨c3, 0, none⟩ = some (.int .i64 i) ∧ w'.cell? ⟨c4, 0, none⟩ = some (.bool v) ∧ w'.cell? ⟨s, 4, none⟩ = some (.pointer (some ⟨t, 0, none⟩)))
    (first | exact ⟨q1, q2, q3, q4, c4'⟩ | exact ⟨hk1.cell q1 n1, hk1.cell q2 n2, hk1.cell q3 n3, hk1.cell q4 n4, hk1.cell c4' n5⟩ | exact ⟨hkp.cell q1 (by simp), hkp.cell q2 (by simp), hkp.cell q3 (by simp), hkp.cell q4 (by simp), hkp.cell c4' (by simp)⟩ | assumption)
    (first
      | (go_at_call 70; refine (place_any (h.keeps ((Keeps.refl [] w).drew)) h0 h1).mono ?_; rintro e wp ⟨rfl, hkp0⟩; have hkp : Keeps [] w wp := ((Keeps.refl _ _).drew).trans hkp0)
      | (go_at_call 79; refine (trestrict_any (h.keeps hkp).tab hf p0 p1 (by omega) (by omega)).mono ?_; rintro e w1 ⟨r, N1, last1, sz1, rfl, hT1, hs1, hok1, hE1, hl1, hl2, hsz1, hk10⟩; have hk1 : Keeps [t, bn, bm] w w1 := (hkp.mono (by simp)).trans hk10))
  go_wp2_with fail
  go_ret
  exact ⟨r, N1, last1, sz1, rfl, hT1, hs1, hok1, fun a => (hE1 _).trans (FV_set h.tab.wf hf h0 h1 v a).symm, hl1, by omega, by omega, hk1⟩

set_option maxRecDepth 100000 in
set_option maxHeartbeats 400000 in
theorem exi1_any {w : World} {s hb t bn bm sz nh L c1 c2 c3 vb vo cap : Nat} {od : Ord L} {lim given : Int} {N : Tab} {last : Int} {H : Int → Option Int} {fr frV : Int → Bool} (hfr : ∀ k, 0 ≤ k → k < (L : Int) → fr k = frV (od.at_ k)) (h : StAt w s hb t bn bm sz nh od lim given N last H) {f : Int} (hf : Ok N 0 f) (hv : Truths w vb vo L fr) (hvS : vb ∉ [t, bn, bm]) (hvl : vb < w.heap.size) (hb1 : last + 100000 ≤ 4611686018427387904) (hb2 : sz + 100000 < maxLen)
    (q1 : w.cell? ⟨c1, 0, none⟩ = some (.pointer (some ⟨s, 0, none⟩))) (q2 : w.cell? ⟨c2, 0, none⟩ = some (.int .i64 f)) (q3 : w.cell? ⟨c3, 0, none⟩ = some (.slice (some ⟨vb, vo, none⟩) L cap)) :
    Calls Tryz.prog 80 #[.pointer (some ⟨c1, 0, none⟩), .pointer (some ⟨c2, 0, none⟩), .pointer (some ⟨c3, 0, none⟩)] w fun e w' => Gives w' t bn bm sz od N last (exB frV (FV N od f)) w e := by
  have c4' := h.c4
  have n1 := h.tab.far q1 (fun _ e => by cases e)
  have n2 := h.tab.far q2 (fun _ e => by cases e)
  have n3 := h.tab.far q3 (fun _ e => by cases e)
  have n5 := h.farS
  go_enter Tryz.func80, Tryz.ntmps80
  go_wp2_with fail
  go_region_held3 (fun w' => w'.cell? ⟨c1, 0, none⟩ = some (.pointer (some ⟨s, 0, none⟩)) ∧ w'.cell? ⟨c2, 0, none⟩ = some (.int .i64 f) ∧ w'.cell? ⟨c3, 0, none⟩ = some (.slice (some ⟨vb, vo, none⟩) L cap) ∧ w'.cell? ⟨s, 4, none⟩ = some (.pointer (some ⟨t, 0, none⟩)))
    (first | exact ⟨q1, q2, q3, c4'⟩ | exact ⟨hk1.cell q1 n1, hk1.cell q2 n2, hk1.cell q3 n3, hk1.cell c4' n5⟩ | assumption)
    (first
      | (go_at_call 81; refine (texists_any (fr := fr) (h.keeps ((Keeps.refl [] w).drew)).tab hf (fun k hk => hv k hk) hvS hvl (by omega) (by omega)).mono ?_; rintro e w1 ⟨r, N1, last1, sz1, rfl, hT1, hs1, hok1, hE1, hl1, hl2, hsz1, hk1⟩))
  go_wp2_with fail
  go_ret
  refine ⟨r, N1, last1, sz1, rfl, hT1, hs1, hok1, fun a => ?_, hl1, by omega, by omega, ((Keeps.refl _ _).drew).trans hk1⟩
  have h1 := hE1 (fun k => a (od.at_ k))
  rw [FV_ex h.tab.wf hf hfr, ← exB_iff] at h1
  show E N1 r (fun k => a (od.at_ k)) = _
  cases hx : E N1 r (fun k => a (od.at_ k)) <;> cases hy : exB frV (FV N od f) a <;> simp_all

set_option maxRecDepth 100000 in
set_option maxHeartbeats 1000000 in
theorem findWith_any {w : World} {s hb t bn bm sz nh L b o cap n : Nat} {od : Ord L} {lim given : Int} {N : Tab} {last : Int} {H : Int → Option Int} (h : StAt w s hb t bn bm sz nh od lim given N last H) {f : Int} (hfit : Fits f) (hl : List Int) (hn : hl.length < 4611686018427387904) (hnn : n = hl.length) (hc : IntsIn w b o hl) :
    Calls Tryz.prog 77 #[.pointer (some ⟨s, 0, none⟩), .int .i64 f, .slice (some ⟨b, o, none⟩) n cap] w fun e w' => Keeps [] w w' ∧
      ((H f = none ∧ e = .returned (.tuple #[.int .i64 0, .int .i64 2])) ∨ ∃ f0, H f = some f0 ∧ ((AllV L hl hl.length ∧ e = .returned (.tuple #[.int .i64 f0, .int .i64 0])) ∨ (¬ AllV L hl hl.length ∧ e = .returned (.tuple #[.int .i64 f0, .int .i64 3])))) := by
  have hk : Keeps [] w (w.alloc (.cells #[.int .i64 f] 3)) := (Keeps.refl _ _).alloc _
  have hst' := h.keeps hk
  go_enter Tryz.func77, Tryz.ntmps77
  go_wp2_with fail
  refine (find_any (b := w.heap.size) hst' [f] (by simp) (fun j hj => by simp at hj; subst hj; simpa using hfit) (fun j hj => by simp at hj; subst hj; simp) (by simp)).mono ?_
  rintro e w1 (⟨⟨j, hj, hno⟩, rfl, hk1⟩ | ⟨hall, g, gcap, rfl, hg, hcell, hk1⟩)
  · go_wp2_with fail
    go_ret2
    refine ⟨hk.trans hk1, Or.inl ⟨?_, rfl⟩⟩
    simp at hj
    subst hj
    simpa using hno
  · have hs := hall 0 (by simp)
    simp at hs
    obtain ⟨f0, hf0⟩ := Option.isSome_iff_exists.1 hs
    have hc0 := hcell 0 (by simp)
    simp [hf0] at hc0
    have hst1 := hst'.keeps hk1
    have hkw := hk.trans hk1
    have lg : g < w1.heap.size := cell_lt (p := ⟨g, 0, none⟩) hc0
    have hk0 : Keeps [] w1 w1.drew := (Keeps.refl _ _).drew
    simp only [List.length_cons, List.length_nil, Nat.zero_add]
    have HF : Hid (H f = some f0) := hf0
    clear hs hf0 hall hcell
    go_wp2_with fail
    subst hnn
    go_quiet ((go_at_call 67; exact Calls.quiet_of_same ((known_is (hst1.keeps ((Keeps.refl _ _).drewN _)) hl hn (hc.keeps (hkw.trans ((Keeps.refl _ _).drewN _)) (by simp))).mono (fun _ _ h => ⟨h.1, h.2.symm⟩))))
    go_wp2_with fail
    go_ret2
    refine ⟨hkw.drewN nq, Or.inr ⟨f0, HF.out, ?_⟩⟩
    by_cases ha : AllV L hl hl.length
    · rw [knownE_ok ha]; exact Or.inl ⟨ha, rfl⟩
    · rw [knownE_bad ha]; exact Or.inr ⟨ha, rfl⟩

end Go.Proofs.YtmgjegokkbghlaaGreat

namespace Go.Proofs.YtmgjegokkbghlaaGreat
open Go.RowKit Go.Maps Bdd
attribute [local go_sem ↓] Go.wp_at_zero Go.wp_at_succ

set_option maxRecDepth 100000 in
set_option maxHeartbeats 4000000 in
theorem swa1_any {w : World} {s hb t bn bm sz nh L c1 c2 c3 c4 : Nat} {od : Ord L} {lim given : Int} {N : Tab} {last : Int} {H : Int → Option Int} (h : StAt w s hb t bn bm sz nh od lim given N last H) {f i j : Int} (hf : Ok N 0 f) (h0 : 0 ≤ i) (h1 : i < L) (h2 : 0 ≤ j) (h3 : j < L) (hb1 : last + 100000 ≤ 4611686018427387904) (hb2 : sz + 100000 < maxLen)
    (q1 : w.cell? ⟨c1, 0, none⟩ = some (.pointer (some ⟨s, 0, none⟩))) (q2 : w.cell? ⟨c2, 0, none⟩ = some (.int .i64 f)) (q3 : w.cell? ⟨c3, 0, none⟩ = some (.int .i64 i)) (q4 : w.cell? ⟨c4, 0, none⟩ = some (.int .i64 j)) :
    Calls Tryz.prog 82 #[.pointer (some ⟨c1, 0, none⟩), .pointer (some ⟨c2, 0, none⟩), .pointer (some ⟨c3, 0, none⟩), .pointer (some ⟨c4, 0, none⟩)] w fun e w' => Gives w' t bn bm sz od N last (fun a => FV N od f (swapA a i j)) w e := by
  have c4' := h.c4
  obtain ⟨p0, p1, p2⟩ := od.r2 i h0 h1
  obtain ⟨p3, p4, p5⟩ := od.r2 j h2 h3
  have n1 := h.tab.far q1 (fun _ e => by cases e)
  have n2 := h.tab.far q2 (fun _ e => by cases e)
  have n3 := h.tab.far q3 (fun _ e => by cases e)
  have n4 := h.tab.far q4 (fun _ e => by cases e)
  have n5 := h.farS
  have hv : Val N f (E N f) := ⟨hf, fun _ => rfl⟩
  go_enter Tryz.func82, Tryz.ntmps82
  go_wp2_with fail
  go_region_held3 (fun w' => w'.cell? ⟨c1, 0, none⟩ = some (.pointer (some ⟨s, 0, none⟩)) ∧ w'.cell? ⟨c2, 0, none⟩ = some (.int .i64 f) ∧ w'.cell? ⟨c3, 0, none⟩ = some (.int .i64 i) ∧ w'.cell? ⟨c4, 0, none⟩ = some (.int .i64 j) ∧ w'.cell? ⟨s, 4, none⟩ = some (.pointer (some ⟨t, 0, none⟩)))
    (first | exact ⟨hk1.cell q1 n1, hk1.cell q2 n2, hk1.cell q3 n3, hk1.cell q4 n4, hk1.cell c4' n5⟩ | exact ⟨hkq.cell q1 (by simp), hkq.cell q2 (by simp), hkq.cell q3 (by simp), hkq.cell q4 (by simp), hkq.cell c4' (by simp)⟩ | exact ⟨hkp.cell q1 (by simp), hkp.cell q2 (by simp), hkp.cell q3 (by simp), hkp.cell q4 (by simp), hkp.cell c4' (by simp)⟩ | exact ⟨q1, q2, q3, q4, c4'⟩ | assumption)
    (first
      | (go_at_call 70; refine (place_any (h.keeps hkp) h2 h3).mono ?_; rintro e wq ⟨rfl, hkq0⟩; have hkq : Keeps [] w wq := hkp.trans hkq0)
      | (go_at_call 70; refine (place_any (h.keeps ((Keeps.refl [] w).drew)) h0 h1).mono ?_; rintro e wp ⟨rfl, hkp0⟩; have hkp : Keeps [] w wp := ((Keeps.refl _ _).drew).trans hkp0)
      | (go_at_call 83; refine (tswap_any (h.keeps hkq).tab hv p0 p1 p3 p4 (by omega) (by omega)).mono ?_; rintro e w1 ⟨r, N1, last1, sz1, rfl, hT1, hs1, hok1, hl1, hl2, hsz1, hk10⟩; have hk1 : Keeps [t, bn, bm] w w1 := (hkq.mono (by simp)).trans hk10))
  go_wp2_with fail
  go_ret
  exact ⟨r, N1, last1, sz1, rfl, hT1, hs1, hok1.1, fun a => (hok1.2 _).trans (FV_swap h.tab.wf hf h0 h1 h2 h3 a).symm, hl1, by omega, by omega, hk1⟩


end Go.Proofs.YtmgjegokkbghlaaGreat

namespace Go.Proofs.YtmgjegokkbghlaaGreat
open Go.RowKit Go.Maps Bdd
attribute [local go_sem ↓] Go.wp_at_zero Go.wp_at_succ

set_option maxRecDepth 100000 in
set_option maxHeartbeats 1000000 in
theorem restrict_call {w : World} {s hb t bn bm L nh sz : Nat} {od : Ord L} {lim given lb : Int} {V : Int → Option Fun} (h : St w s hb t bn bm od nh sz lim given V lb) {f i : Int} {v : Bool} {F : Fun} (hf : V f = some F) (h0 : 0 ≤ i) (h1 : i < L) (hlb : lb + 100000 ≤ 4611686018427387904) (hg1 : given + 1 ≤ 4611686018427387904) :
    Calls Tryz.prog 27 #[.pointer (some ⟨s, 0, none⟩), .int .i64 f, .int .i64 i, .bool v] w fun e w' => Held1 w s hb t bn bm od nh lim given V lb (fun a => F (setAt a i v)) e w' := by
  have hsz := h.szb
  obtain ⟨N, last, H, hst, k1, k2, k3, k4, k5, k6⟩ := h
  have hmf : ∀ (fn : Fn) (first cap : Array Value) (w : World), (Instr.makeFunc fn first cap).run Tryz.prog w = .ok (.func fn first cap) w := fun _ _ _ _ => rfl
  obtain ⟨f0, e0, e1⟩ := St.has k2 hf
  have hfit : Fits f := by have := hst.hr f f0 e0; unfold Fits; omega
  obtain ⟨W, hW⟩ : ∃ W, W = (((w.alloc (.cells #[.pointer (some ⟨s, 0, none⟩)] 36)).alloc (.cells #[.int .i64 i] 3)).alloc (.cells #[.bool v] 4)).alloc (.cells #[.int .i64 i] 3) := ⟨_, rfl⟩
  have hk : Keeps [] w W := by rw [hW]; exact ((((Keeps.refl _ _).alloc _).alloc _).alloc _).alloc _
  have hst' := hst.keeps hk
  have d1 : W.cell? ⟨w.heap.size, 0, none⟩ = some (.pointer (some ⟨s, 0, none⟩)) := by rw [hW]; exact (((((Keeps.refl [] _).alloc _).alloc _).alloc _).cell (cell_new w _ _ rfl rfl) (by simp))
  have d2 : W.cell? ⟨w.heap.size + 1, 0, none⟩ = some (.int .i64 i) := by rw [hW]; exact ((((Keeps.refl [] _).alloc _).alloc _).cell (cell_new (w.alloc _) _ _ (by simp) rfl) (by simp))
  have d3 : W.cell? ⟨w.heap.size + 1 + 1, 0, none⟩ = some (.bool v) := by rw [hW]; exact (((Keeps.refl [] _).alloc _).cell (cell_new ((w.alloc _).alloc _) _ _ (by simp) rfl) (by simp))
  have d4 : IntsIn W (w.heap.size + 1 + 1 + 1) 0 [i] := fun j hj => by simp at hj; subst hj; rw [hW]; exact cell_new _ _ _ (by simp) rfl
  have HV : Hid (∀ x, V x = (H x).map (FV N od)) := k2
  have HF : Hid (H f = some f0) := e0
  have HE : Hid (FV N od f0 = F) := e1
  have HW : Hid (W = (((w.alloc (.cells #[.pointer (some ⟨s, 0, none⟩)] 36)).alloc (.cells #[.int .i64 i] 3)).alloc (.cells #[.bool v] 4)).alloc (.cells #[.int .i64 i] 3)) := hW
  have ls : s < w.heap.size := cell_lt (p := ⟨s, 0, none⟩) hst.c0
  clear k2 hf e0 e1 hW
  go_enter Tryz.func27, Tryz.ntmps27
  go_wp2_with fail
  rw [← HW.out]
  refine (findWith_any (b := w.heap.size + 1 + 1 + 1) (o := 0) (n := 1) hst' hfit [i] (by simp) rfl d4).mono ?_
  rintro e w1 ⟨hk1, ⟨hno, _⟩ | ⟨f1, hf1, hh⟩⟩
  · rw [HF.out] at hno; cases hno
  · rw [HF.out] at hf1
    cases hf1
    rcases hh with ⟨_, rfl⟩ | ⟨hbad, _⟩
    · have hst1 := hst'.keeps hk1
      have c1 := hk1.cell d1 (by simp)
      have c2 := hk1.cell d2 (by simp)
      have c3 := hk1.cell d3 (by simp)
      have l3 : w.heap.size + 1 + 1 < w1.heap.size := cell_lt (p := ⟨w.heap.size + 1 + 1, 0, none⟩) c3
      have l1 : w.heap.size < w1.heap.size := by omega
      have l2 : w.heap.size + 1 < w1.heap.size := by omega
      go_wp2_with fail
      have hk2 : Keeps [] w1 (w1.alloc (.cells #[.int .i64 f0] 95)) := (Keeps.refl _ _).alloc _
      have hst2 := hst1.keeps hk2
      refine (hold_Restrict hst2 k1 HV.out k3 k4 k5 k6 hg1 _ _ _ _ (res1_any (c1 := w.heap.size) (c2 := w1.heap.size) (c3 := w.heap.size + 1) (c4 := w.heap.size + 1 + 1) (f := f0) (i := i) (v := v) (hst2.keeps ((Keeps.refl _ _).drew)) (hst.ok f f0 HF.out) h0 h1 (by omega) hsz (hk2.cell c1 (by simp)) (by simp) (hk2.cell c2 (by simp)) (hk2.cell c3 (by simp)))).mono ?_
      intro e w' hh
      rw [HE.out] at hh
      have hh' := hh.from ((hk.trans hk1).trans hk2)
      obtain ⟨x, y, rfl⟩ := hh.ends
      clear hh
      go_wp2_with fail
      go_ret2
      exact hh'
    · exact absurd (fun k hk => by simp at hk; subst hk; simpa using ⟨h0, h1⟩) hbad

set_option maxRecDepth 100000 in
set_option maxHeartbeats 1000000 in
theorem swap_call {w : World} {s hb t bn bm L nh sz : Nat} {od : Ord L} {lim given lb : Int} {V : Int → Option Fun} (h : St w s hb t bn bm od nh sz lim given V lb) {f i j : Int} {F : Fun} (hf : V f = some F) (h0 : 0 ≤ i) (h1 : i < L) (h2 : 0 ≤ j) (h3 : j < L) (hlb : lb + 100000 ≤ 4611686018427387904) (hg1 : given + 1 ≤ 4611686018427387904) :
    Calls Tryz.prog 31 #[.pointer (some ⟨s, 0, none⟩), .int .i64 f, .int .i64 i, .int .i64 j] w fun e w' => Held1 w s hb t bn bm od nh lim given V lb (fun a => F (swapA a i j)) e w' := by
  have hsz := h.szb
  obtain ⟨N, last, H, hst, k1, k2, k3, k4, k5, k6⟩ := h
  have hmf : ∀ (fn : Fn) (first cap : Array Value) (w : World), (Instr.makeFunc fn first cap).run Tryz.prog w = .ok (.func fn first cap) w := fun _ _ _ _ => rfl
  obtain ⟨f0, e0, e1⟩ := St.has k2 hf
  have hfit : Fits f := by have := hst.hr f f0 e0; unfold Fits; omega
  obtain ⟨W, hW⟩ : ∃ W, W = (((w.alloc (.cells #[.pointer (some ⟨s, 0, none⟩)] 36)).alloc (.cells #[.int .i64 i] 3)).alloc (.cells #[.int .i64 j] 3)).alloc (.cells #[.int .i64 i, .int .i64 j] 3) := ⟨_, rfl⟩
  have hk : Keeps [] w W := by rw [hW]; exact ((((Keeps.refl _ _).alloc _).alloc _).alloc _).alloc _
  have hst' := hst.keeps hk
  have d1 : W.cell? ⟨w.heap.size, 0, none⟩ = some (.pointer (some ⟨s, 0, none⟩)) := by rw [hW]; exact (((((Keeps.refl [] _).alloc _).alloc _).alloc _).cell (cell_new w _ _ rfl rfl) (by simp))
  have d2 : W.cell? ⟨w.heap.size + 1, 0, none⟩ = some (.int .i64 i) := by rw [hW]; exact ((((Keeps.refl [] _).alloc _).alloc _).cell (cell_new (w.alloc _) _ _ (by simp) rfl) (by simp))
  have d3 : W.cell? ⟨w.heap.size + 1 + 1, 0, none⟩ = some (.int .i64 j) := by rw [hW]; exact (((Keeps.refl [] _).alloc _).cell (cell_new ((w.alloc _).alloc _) _ _ (by simp) rfl) (by simp))
  have d4 : IntsIn W (w.heap.size + 1 + 1 + 1) 0 [i, j] := fun k hk => by
    have : k = 0 ∨ k = 1 := by simp at hk; omega
    rw [hW]
    rcases this with rfl | rfl
    · exact cell_new _ _ _ (by simp) rfl
    · exact cell_new _ _ _ (by simp) rfl
  have HV : Hid (∀ x, V x = (H x).map (FV N od)) := k2
  have HF : Hid (H f = some f0) := e0
  have HE : Hid (FV N od f0 = F) := e1
  have HW : Hid (W = (((w.alloc (.cells #[.pointer (some ⟨s, 0, none⟩)] 36)).alloc (.cells #[.int .i64 i] 3)).alloc (.cells #[.int .i64 j] 3)).alloc (.cells #[.int .i64 i, .int .i64 j] 3)) := hW
  have ls : s < w.heap.size := cell_lt (p := ⟨s, 0, none⟩) hst.c0
  clear k2 hf e0 e1 hW
  go_enter Tryz.func31, Tryz.ntmps31
  go_wp2_with fail
  rw [← HW.out]
  refine (findWith_any (b := w.heap.size + 1 + 1 + 1) (o := 0) (n := 2) hst' hfit [i, j] (by simp) rfl d4).mono ?_
  rintro e w1 ⟨hk1, ⟨hno, _⟩ | ⟨f1, hf1, hh⟩⟩
  · rw [HF.out] at hno; cases hno
  · rw [HF.out] at hf1
    cases hf1
    rcases hh with ⟨_, rfl⟩ | ⟨hbad, _⟩
    · have hst1 := hst'.keeps hk1
      have c1 := hk1.cell d1 (by simp)
      have c2 := hk1.cell d2 (by simp)
      have c3 := hk1.cell d3 (by simp)
      have l3 : w.heap.size + 1 + 1 < w1.heap.size := cell_lt (p := ⟨w.heap.size + 1 + 1, 0, none⟩) c3
      have l1 : w.heap.size < w1.heap.size := by omega
      have l2 : w.heap.size + 1 < w1.heap.size := by omega
      go_wp2_with fail
      have hk2 : Keeps [] w1 (w1.alloc (.cells #[.int .i64 f0] 95)) := (Keeps.refl _ _).alloc _
      have hst2 := hst1.keeps hk2
      refine (hold_Swap hst2 k1 HV.out k3 k4 k5 k6 hg1 _ _ _ _ (swa1_any (c1 := w.heap.size) (c2 := w1.heap.size) (c3 := w.heap.size + 1) (c4 := w.heap.size + 1 + 1) (f := f0) (i := i) (j := j) (hst2.keeps ((Keeps.refl _ _).drew)) (hst.ok f f0 HF.out) h0 h1 h2 h3 (by omega) hsz (hk2.cell c1 (by simp)) (by simp) (hk2.cell c2 (by simp)) (hk2.cell c3 (by simp)))).mono ?_
      intro e w' hh
      rw [HE.out] at hh
      have hh' := hh.from ((hk.trans hk1).trans hk2)
      obtain ⟨x, y, rfl⟩ := hh.ends
      clear hh
      go_wp2_with fail
      go_ret2
      exact hh'
    · refine absurd (fun k hk => ?_) hbad
      have : k = 0 ∨ k = 1 := by simp at hk; omega
      rcases this with rfl | rfl
      · simpa using ⟨h0, h1⟩
      · simpa using ⟨h2, h3⟩

end Go.Proofs.YtmgjegokkbghlaaGreat

namespace Go.Proofs.YtmgjegokkbghlaaGreat
open Go.RowKit Go.Maps Bdd
attribute [local go_sem ↓] Go.wp_at_zero Go.wp_at_succ

/-- what is free, by a list -/
def frOf (hl : List Int) (n : Nat) : Int → Bool := fun k => (hl.take n).contains k
theorem frOf_succ (hl : List Int) (n : Nat) (hn : n < hl.length) (k : Int) : frOf hl (n + 1) k = (frOf hl n k || (k == hl.getD n 0)) := by
  unfold frOf
  have e : hl.getD n 0 = hl[n] := by simp [List.getD, hn]
  rw [e, List.take_succ_eq_append_getElem hn, List.contains_eq_any_beq, List.contains_eq_any_beq, List.any_append]
  simp

set_option maxRecDepth 100000 in
set_option maxHeartbeats 2000000 in
theorem exists_call {w : World} {s hb t bn bm L nh sz b o cap n : Nat} {od : Ord L} {lim given lb : Int} {V : Int → Option Fun} (h : St w s hb t bn bm od nh sz lim given V lb) {f : Int} {F : Fun} (hf : V f = some F) (hl : List Int) (hn : hl.length < 4611686018427387904) (hnn : n = hl.length) (hc : IntsIn w b o hl) (hall : AllV L hl hl.length) (hlb : lb + 100000 ≤ 4611686018427387904) (hg1 : given + 1 ≤ 4611686018427387904) :
    Calls Tryz.prog 29 #[.pointer (some ⟨s, 0, none⟩), .int .i64 f, .slice (some ⟨b, o, none⟩) n cap] w fun e w' => Held1 w s hb t bn bm od nh lim given V lb (exB (frOf hl hl.length) F) e w' := by
  have hsz := h.szb
  obtain ⟨N, last, H, hst, k1, k2, k3, k4, k5, k6⟩ := h
  have hmf : ∀ (fn : Fn) (first cap : Array Value) (w : World), (Instr.makeFunc fn first cap).run Tryz.prog w = .ok (.func fn first cap) w := fun _ _ _ _ => rfl
  obtain ⟨f0, e0, e1⟩ := St.has k2 hf
  have hfit : Fits f := by have := hst.hr f f0 e0; unfold Fits; omega
  have hL8 : L ≤ 8 := by have := hst.tab.wf.tops; omega
  obtain ⟨i4, hi4, hz0, hz1, hz2⟩ := info_parts info4
  have HMK : Hid (∀ w : World, (Instr.makeSlice 32 (.int .i64 (L : Int)) (.int .i64 (L : Int))).run Tryz.prog w = .ok (.slice (some ⟨w.heap.size, 0, none⟩) L L) (w.alloc (.cells (fillV (.bool false) L) 4))) := make_run Tryz.underlying32 hi4 hz0 hz1 hz2 (by omega) rfl hL8
  have hk : Keeps [] w (w.alloc (.cells #[.pointer (some ⟨s, 0, none⟩)] 36)) := (Keeps.refl _ _).alloc _
  have hst' := hst.keeps hk
  have d1 : (w.alloc (.cells #[.pointer (some ⟨s, 0, none⟩)] 36)).cell? ⟨w.heap.size, 0, none⟩ = some (.pointer (some ⟨s, 0, none⟩)) := cell_new w _ _ rfl rfl
  have HV : Hid (∀ x, V x = (H x).map (FV N od)) := k2
  have HF : Hid (H f = some f0) := e0
  have HE : Hid (FV N od f0 = F) := e1
  have HA : Hid (AllV L hl hl.length) := hall
  have HC : Hid (IntsIn w b o hl) := hc
  have HN : Hid (n = hl.length) := hnn
  have ls : s < w.heap.size := cell_lt (p := ⟨s, 0, none⟩) hst.c0
  clear k2 hf e0 e1 hall hc hi4 hz0 hz1 hz2 hnn
  go_enter Tryz.func29, Tryz.ntmps29
  go_wp2_with fail
  refine (findWith_any hst' hfit hl hn HN.out (HC.out.keeps hk (by simp))).mono ?_
  rintro e w1 ⟨hk1, ⟨hno, _⟩ | ⟨f1, hf1, hh⟩⟩
  · rw [HF.out] at hno; cases hno
  · rw [HF.out] at hf1
    cases hf1
    rcases hh with ⟨_, rfl⟩ | ⟨hbad, _⟩
    · have hst1 := hst'.keeps hk1
      have c1 := hk1.cell d1 (by simp)
      have c2' := hst1.c2
      have l1 : w.heap.size < w1.heap.size := cell_lt (p := ⟨w.heap.size, 0, none⟩) c1
      have l0 : s < w1.heap.size := by omega
      go_wp2_with (first
        | (at_make; refine wpList_make_at rfl _ _ 32 rfl (.int .i64 (L : Int)) (.int .i64 (L : Int)) _ rfl rfl (HMK.out _) ?_)
        | fail)
      obtain ⟨Y, hY⟩ : ∃ Y, Y = (((w1.alloc (Obj.cells #[Value.int IntKind.i64 f0] 95)).alloc (Obj.cells (fillV (Value.bool false) L) 4)).alloc (Obj.cells #[Value.slice (some { block := w1.heap.size + 1, off := 0 }) L L] 32)) := ⟨_, rfl⟩
      rw [← hY]
      have hkY : Keeps [] w1 Y := by rw [hY]; exact (((Keeps.refl _ _).alloc _).alloc _).alloc _
      have b1 : Y.cell? ⟨w1.heap.size, 0, none⟩ = some (.int .i64 f0) := by rw [hY]; exact ((((Keeps.refl [] _).alloc _).alloc _).cell (cell_new w1 _ _ rfl rfl) (by simp))
      have b2 : Marks Y (w1.heap.size + 1) L (fun k => frOf hl 0 (od.at_ k)) := fun k hk => by
        rw [hY]
        refine ⟨(((Keeps.refl [] _).alloc _).cell (cell_new (w1.alloc _) _ _ (by simp) (fillV_get _ hk)) (by simp)), ?_⟩
        exact (((Keeps.refl [] ((w1.alloc (Obj.cells #[Value.int IntKind.i64 f0] 95)).alloc (Obj.cells (fillV (Value.bool false) L) 4))).alloc _).frozen (p := ⟨w1.heap.size + 1, k, none⟩) (by simp) (by simp)).trans (World.frozen?_alloc_at _ _ _ _ (by simp))
      have b3 : Y.cell? ⟨w1.heap.size + 1 + 1, 0, none⟩ = some (.slice (some ⟨w1.heap.size + 1, 0, none⟩) L L) := by rw [hY]; exact cell_new _ _ _ (by simp) rfl
      have hlY : w1.heap.size + 1 + 1 < Y.heap.size := cell_lt (p := ⟨w1.heap.size + 1 + 1, 0, none⟩) b3
      clear hY
      go_loopw [31] (fun i wr => ∃ j : Nat, j ≤ n ∧ i = .int .i64 j ∧ Marks wr (w1.heap.size + 1) L (fun k => frOf hl j (od.at_ k)) ∧ Keeps [w1.heap.size + 1] Y wr) (fun i _ => n - (intOf i).toNat)
      case atStart => exact ⟨0, by omega, rfl, b2, Keeps.refl _ _⟩
      case round =>
        clear b2
        obtain ⟨j, hj, rfl, hm, hkr⟩ := hrel
        have b3' := hkr.cell b3 (by simp)
        by_cases hlt : j < n
        · have hjl : j < hl.length := by have := HN.out; omega
          have hbw : b < w.heap.size := cell_lt (p := ⟨b, o + j, none⟩) (HC.out j hjl)
          have hcj := hkr.cell (hkY.cell (hk1.cell (hk.cell (HC.out j hjl) (by simp)) (by simp)) (by simp)) (by simp; omega)
          have hx := HA.out j hjl
          obtain ⟨p0, p1, p2⟩ := od.r2 _ hx.1 hx.2
          obtain ⟨x, hxe⟩ := Int.eq_ofNat_of_zero_le p0
          have hxL : x < L := by omega
          have hx0 : (0 : Int) ≤ (x : Int) := by omega
          have hx1 : (x : Int) < (L : Int) := by omega
          have hj0 : (0 : Int) ≤ (j : Int) := by omega
          have hj1 : (j : Int) < (n : Int) := by omega
          have hnn2 : (n : Int) < 4611686018427387904 := by have := HN.out; omega
          have q1 := (hm x hxL).1
          have q2 := (hm x hxL).2
          have c1' := hkr.cell (hkY.cell c1 (by simp)) (by simp; omega)
          have hst3 := (hst1.keeps hkY).keepsB hkr (fun x hx => by have := hst1.lts x hx; simp; omega)
          obtain ⟨v, hv⟩ : ∃ v, v = hl.getD j 0 := ⟨_, rfl⟩
          rw [← hv] at hcj hxe p2 hx
          have HX : Hid (od.lv v = (x : Int)) := hxe
          have HVv : Hid (v = hl.getD j 0) := hv
          clear hxe p2 hv
          go_wp2_with fail
          have nwb : w.heap.size ∉ [w1.heap.size + 1] := by simp; omega
          go_region_held3 (fun w' => w'.cell? ⟨w.heap.size, 0, none⟩ = some (.pointer (some ⟨s, 0, none⟩)) ∧ w'.cell? ⟨w1.heap.size + 1 + 1, 0, none⟩ = some (.slice (some ⟨w1.heap.size + 1, 0, none⟩) L L) ∧ Keeps [w1.heap.size + 1] wr w')
            (first | exact ⟨(ks _).cell c1' nwb, (ks _).cell b3' (by simp), ks _⟩ | exact ⟨hkp.cell c1' (by simp), hkp.cell b3' (by simp), hkp.mono (by simp)⟩ | exact ⟨c1', b3', (Keeps.refl _ _).drew⟩ | assumption)
            (first
              | (go_at_call 70; refine (place_any (hst3.keeps ((Keeps.refl [] wr).drew)) hx.1 hx.2).mono ?_; rintro e wp ⟨rfl, hkp0⟩; have hkp : Keeps [] wr wp := ((Keeps.refl _ _).drew).trans hkp0; have ks : ∀ u, Keeps [w1.heap.size + 1] wr (wp.setCell ⟨w1.heap.size + 1, x, none⟩ u) := (fun u => (hkp.mono (by simp)).setCell _ (Or.inl (by simp)) _); have z1 := hkp.cell q1 (by simp); have z2 : wp.frozen? ⟨w1.heap.size + 1, x, none⟩ = false := (hkp.frozen (p := ⟨w1.heap.size + 1, x, none⟩) (cell_lt q1) (by simp)).trans q2; rw [HX.out]))
          have hmp : Marks wp (w1.heap.size + 1) L (fun k => frOf hl j (od.at_ k)) := fun i hi => ⟨hkp.cell (hm i hi).1 (by simp), (hkp.frozen (p := ⟨w1.heap.size + 1, i, none⟩) (cell_lt (hm i hi).1) (by simp)).trans (hm i hi).2⟩
          go_wp2_with fail
          go_roundw
          case rel =>
            refine ⟨j + 1, by omega, by go_num, hmp.set (fun i hi => ?_), hkr.trans (ks _)⟩
            show frOf hl (j + 1) (od.at_ i) = (frOf hl j (od.at_ i) || ((i : Int) == (x : Int)))
            rw [frOf_succ hl j hjl, ← HVv.out]
            congr 1
            have h1 := od.at_iff (k := (i : Int)) (i := v) (by omega) (by omega) hx.1 hx.2
            rw [HX.out] at h1
            by_cases e1 : od.at_ (i : Int) = v
            · rw [e1, h1.1 e1]; simp
            · have e2 : ¬ (i : Int) = (x : Int) := fun e => e1 (h1.2 e)
              rw [beq_eq_false_iff_ne.2 e1, beq_eq_false_iff_ne.2 e2]
          case measure => simp [intOf]; omega
        · have e : j = n := by omega
          subst e
          have c1' := hkr.cell (hkY.cell c1 (by simp)) (by simp; omega)
          have c2' := hkr.cell b1 (by simp)
          have hst3 := (hst1.keeps hkY).keepsB hkr (fun x hx => by have := hst1.lts x hx; simp; omega)
          have hkw : Keeps [] w wr := (((hk.trans (hk1.trans hkY)).mono (by simp)).trans hkr).strike (by simp; omega)
          have hvS : w1.heap.size + 1 ∉ [t, bn, bm] := fun hin => by have := hst1.lts (w1.heap.size + 1) (by simp at hin ⊢; omega); omega
          have hvl : w1.heap.size + 1 < wr.heap.size := by have := hkr.size; omega
          have htr : Truths wr (w1.heap.size + 1) 0 L (fun k => frOf hl hl.length (od.at_ k)) := fun k hk => by rw [Nat.zero_add, ← HN.out]; exact (hm k hk).1
          go_wp2_with fail
          refine (hold_Exists hst3 k1 HV.out k3 k4 k5 k6 hg1 _ _ _ (exi1_any (c1 := w.heap.size) (c2 := w1.heap.size) (c3 := w1.heap.size + 1 + 1) (f := f0) (vb := w1.heap.size + 1) (vo := 0) (cap := L) (fr := fun k => frOf hl hl.length (od.at_ k)) (frV := frOf hl hl.length) (fun _ _ _ => rfl) (hst3.keeps ((Keeps.refl _ _).drew)) (hst.ok f f0 HF.out) (fun k hk => htr k hk) hvS hvl (by omega) hsz c1' c2' b3')).mono ?_
          intro e w' hh
          rw [HE.out] at hh
          have hh' := hh.from hkw
          obtain ⟨x, y, rfl⟩ := hh.ends
          clear hh
          go_wp2_with fail
          go_ret2
          exact hh'
    · exact absurd HA.out hbad

end Go.Proofs.YtmgjegokkbghlaaGreat
