/- The closures of Restrict, Exists, Swap; findWith. -/
import Derived.Test.YtmgjegokkbghlaaGreatPerm
import Derived.Test.YtmgjegokkbghlaaGreatMakes
import Derived.Test.YtmgjegokkbghlaaGreatKnownIs
import Derived.Test.YtmgjegokkbghlaaGreatHoldRes
import Derived.Test.YtmgjegokkbghlaaGreatHoldExi
import Derived.Test.YtmgjegokkbghlaaGreatHoldSwa
namespace Go.Proofs.YtmgjegokkbghlaaGreat
open Go.RowKit Go.Maps Bdd
attribute [local go_sem ↓] Go.wp_at_zero Go.wp_at_succ

open Classical in
noncomputable def exB (fr : Int → Bool) (F : Fun) : Fun := fun a => decide (ExP fr F a)
open Classical in
theorem exB_iff (fr : Int → Bool) (F : Fun) (a : Int → Bool) : exB fr F a = true ↔ ExP fr F a := by
  unfold exB
  exact decide_eq_true_iff

set_option maxRecDepth 100000 in
set_option maxHeartbeats 400000 in
theorem res1_any {w : World} {s hb t bn bm sz nh L c1 c2 c3 c4 : Nat} {od : Ord L} {lim given : Int} {N : Tab} {last : Int} {H : Int → Option Int} (h : StAt w s hb t bn bm sz nh od lim given N last H) {f i : Int} {v : Bool} (hf : Ok N 0 f) (h0 : 0 ≤ i) (h1 : i < L) (hb1 : last + 100000 ≤ 4611686018427387904) (hb2 : sz + 100000 < maxLen)
    (q1 : w.cell? ⟨c1, 0, none⟩ = some (.pointer (some ⟨s, 0, none⟩))) (q2 : w.cell? ⟨c2, 0, none⟩ = some (.int .i64 f)) (q3 : w.cell? ⟨c3, 0, none⟩ = some (.int .i64 i)) (q4 : w.cell? ⟨c4, 0, none⟩ = some (.bool v)) :
    Calls Tryz.prog 78 #[.pointer (some ⟨c1, 0, none⟩), .pointer (some ⟨c2, 0, none⟩), .pointer (some ⟨c3, 0, none⟩), .pointer (some ⟨c4, 0, none⟩)] w fun e w' => Gives w' t bn bm sz od N last (fun a => FV N od f (setAt a i v)) w e := by
  have c4' := h.c4
  obtain ⟨p0, p1, p2⟩ := od.r2 i h0 h1
  have n1 := h.tab.far q1 (fun _ e => by cases e)
  have n2 := h.tab.far q2 (fun _ e => by cases e)
  have n3 := h.tab.far q3 (fun _ e => by cases e)
  have n4 := h.tab.far q4 (fun _ e => by cases e)
  have n5 := h.farS
  go_enter Tryz.func78, Tryz.ntmps78
  go_wp2_with fail
  go_region_held3 (fun w' => w'.cell? ⟨c1, 0, none⟩ = some (.pointer (some ⟨s, 0, none⟩)) ∧ w'.cell? ⟨c2, 0, none⟩ = some (.int .i64 f) ∧ w'.cell? ⟨c3, 0, none⟩ = some (.int .i64 i) ∧ w'.cell? ⟨c4, 0, none⟩ = some (.bool v) ∧ w'.cell? ⟨s, 4, none⟩ = some (.pointer (some ⟨t, 0, none⟩)))
    (first | exact ⟨q1, q2, q3, q4, c4'⟩ | exact ⟨hk1.cell q1 n1, hk1.cell q2 n2, hk1.cell q3 n3, hk1.cell q4 n4, hk1.cell c4' n5⟩ | exact ⟨hkp.cell q1 (by simp), hkp.cell q2 (by simp), hkp.cell q3 (by simp), hkp.cell q4 (by simp), hkp.cell c4' (by simp)⟩ | assumption)
    (first
      | (go_at_call 70; refine (place_any (h.keeps ((Keeps.refl [] w).drew)) h0 h1).mono ?_; rintro e wp ⟨rfl, hkp0⟩; have hkp : Keeps [] w wp := ((Keeps.refl _ _).drew).trans hkp0)
      | (go_at_call 79; refine (trestrict_any (h.keeps hkp).tab hf p0 p1 (by omega) (by omega)).mono ?_; rintro e w1 ⟨r, N1, last1, sz1, rfl, hT1, hs1, hok1, hE1, hl1, hl2, hsz1, hk10⟩; have hk1 : Keeps [t, bn, bm] w w1 := (hkp.mono (by simp)).trans hk10))
  go_wp2_with fail
  go_ret
  exact ⟨r, N1, last1, sz1, rfl, hT1, hs1, hok1, fun a => (hE1 _).trans (FV_set h.tab.wf hf h0 h1 v a).symm, hl1, by omega, by omega, hk1⟩

set_option maxRecDepth 100000 in
set_option maxHeartbeats 400000 in
theorem exi1_any {w : World} {s hb t bn bm sz nh L c1 c2 c3 vb vo cap : Nat} {od : Ord L} {lim given : Int} {N : Tab} {last : Int} {H : Int → Option Int} {fr frV : Int → Bool} (hfr : ∀ k, 0 ≤ k → k < (L : Int) → fr k = frV (od.at_ k)) (h : StAt w s hb t bn bm sz nh od lim given N last H) {f : Int} (hf : Ok N 0 f) (hv : Truths w vb vo L fr) (hvS : vb ∉ [t, bn, bm]) (hvl : vb < w.heap.size) (hb1 : last + 100000 ≤ 4611686018427387904) (hb2 : sz + 100000 < maxLen)
    (q1 : w.cell? ⟨c1, 0, none⟩ = some (.pointer (some ⟨s, 0, none⟩))) (q2 : w.cell? ⟨c2, 0, none⟩ = some (.int .i64 f)) (q3 : w.cell? ⟨c3, 0, none⟩ = some (.slice (some ⟨vb, vo, none⟩) L cap)) :
    Calls Tryz.prog 80 #[.pointer (some ⟨c1, 0, none⟩), .pointer (some ⟨c2, 0, none⟩), .pointer (some ⟨c3, 0, none⟩)] w fun e w' => Gives w' t bn bm sz od N last (exB frV (FV N od f)) w e := by
  have c4' := h.c4
  have n1 := h.tab.far q1 (fun _ e => by cases e)
  have n2 := h.tab.far q2 (fun _ e => by cases e)
  have n3 := h.tab.far q3 (fun _ e => by cases e)
  have n5 := h.farS
  go_enter Tryz.func80, Tryz.ntmps80
  go_wp2_with fail
  go_region_held3 (fun w' => w'.cell? ⟨c1, 0, none⟩ = some (.pointer (some ⟨s, 0, none⟩)) ∧ w'.cell? ⟨c2, 0, none⟩ = some (.int .i64 f) ∧ w'.cell? ⟨c3, 0, none⟩ = some (.slice (some ⟨vb, vo, none⟩) L cap) ∧ w'.cell? ⟨s, 4, none⟩ = some (.pointer (some ⟨t, 0, none⟩)))
    (first | exact ⟨q1, q2, q3, c4'⟩ | exact ⟨hk1.cell q1 n1, hk1.cell q2 n2, hk1.cell q3 n3, hk1.cell c4' n5⟩ | assumption)
    (first
      | (go_at_call 81; refine (texists_any (fr := fr) (h.keeps ((Keeps.refl [] w).drew)).tab hf (fun k hk => hv k hk) hvS hvl (by omega) (by omega)).mono ?_; rintro e w1 ⟨r, N1, last1, sz1, rfl, hT1, hs1, hok1, hE1, hl1, hl2, hsz1, hk1⟩))
  go_wp2_with fail
  go_ret
  refine ⟨r, N1, last1, sz1, rfl, hT1, hs1, hok1, fun a => ?_, hl1, by omega, by omega, ((Keeps.refl _ _).drew).trans hk1⟩
  have h1 := hE1 (fun k => a (od.at_ k))
  rw [FV_ex h.tab.wf hf hfr, ← exB_iff] at h1
  show E N1 r (fun k => a (od.at_ k)) = _
  cases hx : E N1 r (fun k => a (od.at_ k)) <;> cases hy : exB frV (FV N od f) a <;> simp_all

set_option maxRecDepth 100000 in
set_option maxHeartbeats 1000000 in
theorem findWith_any {w : World} {s hb t bn bm sz nh L b o cap n : Nat} {od : Ord L} {lim given : Int} {N : Tab} {last : Int} {H : Int → Option Int} (h : StAt w s hb t bn bm sz nh od lim given N last H) {f : Int} (hfit : Fits f) (hl : List Int) (hn : hl.length < 4611686018427387904) (hnn : n = hl.length) (hc : IntsIn w b o hl) :
    Calls Tryz.prog 77 #[.pointer (some ⟨s, 0, none⟩), .int .i64 f, .slice (some ⟨b, o, none⟩) n cap] w fun e w' => Keeps [] w w' ∧
      ((H f = none ∧ e = .returned (.tuple #[.int .i64 0, .int .i64 2])) ∨ ∃ f0, H f = some f0 ∧ ((AllV L hl hl.length ∧ e = .returned (.tuple #[.int .i64 f0, .int .i64 0])) ∨ (¬ AllV L hl hl.length ∧ e = .returned (.tuple #[.int .i64 f0, .int .i64 3])))) := by
  have hk : Keeps [] w (w.alloc (.cells #[.int .i64 f] 3)) := (Keeps.refl _ _).alloc _
  have hst' := h.keeps hk
  go_enter Tryz.func77, Tryz.ntmps77
  go_wp2_with fail
  refine (find_any (b := w.heap.size) hst' [f] (by simp) (fun j hj => by simp at hj; subst hj; simpa using hfit) (fun j hj => by simp at hj; subst hj; simp) (by simp)).mono ?_
  rintro e w1 (⟨⟨j, hj, hno⟩, rfl, hk1⟩ | ⟨hall, g, gcap, rfl, hg, hcell, hk1⟩)
  · go_wp2_with fail
    go_ret2
    refine ⟨hk.trans hk1, Or.inl ⟨?_, rfl⟩⟩
    simp at hj
    subst hj
    simpa using hno
  · have hs := hall 0 (by simp)
    simp at hs
    obtain ⟨f0, hf0⟩ := Option.isSome_iff_exists.1 hs
    have hc0 := hcell 0 (by simp)
    simp [hf0] at hc0
    have hst1 := hst'.keeps hk1
    have hkw := hk.trans hk1
    have lg : g < w1.heap.size := cell_lt (p := ⟨g, 0, none⟩) hc0
    have hk0 : Keeps [] w1 w1.drew := (Keeps.refl _ _).drew
    simp only [List.length_cons, List.length_nil, Nat.zero_add]
    have HF : Hid (H f = some f0) := hf0
    clear hs hf0 hall hcell
    go_wp2_with fail
    subst hnn
    go_quiet ((go_at_call 67; exact Calls.quiet_of_same ((known_is (hst1.keeps ((Keeps.refl _ _).drewN _)) hl hn (hc.keeps (hkw.trans ((Keeps.refl _ _).drewN _)) (by simp))).mono (fun _ _ h => ⟨h.1, h.2.symm⟩))))
    go_wp2_with fail
    go_ret2
    refine ⟨hkw.drewN nq, Or.inr ⟨f0, HF.out, ?_⟩⟩
    by_cases ha : AllV L hl hl.length
    · rw [knownE_ok ha]; exact Or.inl ⟨ha, rfl⟩
    · rw [knownE_bad ha]; exact Or.inr ⟨ha, rfl⟩

end Go.Proofs.YtmgjegokkbghlaaGreat
