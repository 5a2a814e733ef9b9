/- The closure of Swap. -/
import Derived.Test.YtmgjegokkbghlaaGreatForms
namespace Go.Proofs.YtmgjegokkbghlaaGreat
open Go.RowKit Go.Maps Bdd
attribute [local go_sem ↓] Go.wp_at_zero Go.wp_at_succ

set_option maxRecDepth 100000 in
set_option maxHeartbeats 4000000 in
theorem swa1_any {w : World} {s hb t bn bm sz nh L c1 c2 c3 c4 : Nat} {od : Ord L} {lim given : Int} {N : Tab} {last : Int} {H : Int → Option Int} (h : StAt w s hb t bn bm sz nh od lim given N last H) {f i j : Int} (hf : Ok N 0 f) (h0 : 0 ≤ i) (h1 : i < L) (h2 : 0 ≤ j) (h3 : j < L) (hb1 : last + 100000 ≤ 4611686018427387904) (hb2 : sz + 100000 < maxLen)
    (q1 : w.cell? ⟨c1, 0, none⟩ = some (.pointer (some ⟨s, 0, none⟩))) (q2 : w.cell? ⟨c2, 0, none⟩ = some (.int .i64 f)) (q3 : w.cell? ⟨c3, 0, none⟩ = some (.int .i64 i)) (q4 : w.cell? ⟨c4, 0, none⟩ = some (.int .i64 j)) :
    Calls Tryz.prog 82 #[.pointer (some ⟨c1, 0, none⟩), .pointer (some ⟨c2, 0, none⟩), .pointer (some ⟨c3, 0, none⟩), .pointer (some ⟨c4, 0, none⟩)] w fun e w' => Gives w' t bn bm sz od N last (fun a => FV N od f (swapA a i j)) w e := by
  have c4' := h.c4
  obtain ⟨p0, p1, p2⟩ := od.r2 i h0 h1
  obtain ⟨p3, p4, p5⟩ := od.r2 j h2 h3
  have n1 := h.tab.far q1 (fun _ e => by cases e)
  have n2 := h.tab.far q2 (fun _ e => by cases e)
  have n3 := h.tab.far q3 (fun _ e => by cases e)
  have n4 := h.tab.far q4 (fun _ e => by cases e)
  have n5 := h.farS
  have hv : Val N f (E N f) := ⟨hf, fun _ => rfl⟩
  go_enter Tryz.func82, Tryz.ntmps82
  go_wp2_with fail
  go_region_held3 (fun w' => w'.cell? ⟨c1, 0, none⟩ = some (.pointer (some ⟨s, 0, none⟩)) ∧ w'.cell? ⟨c2, 0, none⟩ = some (.int .i64 f) ∧ w'.cell? ⟨c3, 0, none⟩ = some (.int .i64 i) ∧ w'.cell? ⟨c4, 0, none⟩ = some (.int .i64 j) ∧ w'.cell? ⟨s, 4, none⟩ = some (.pointer (some ⟨t, 0, none⟩)))
    (first | exact ⟨hk1.cell q1 n1, hk1.cell q2 n2, hk1.cell q3 n3, hk1.cell q4 n4, hk1.cell c4' n5⟩ | exact ⟨hkq.cell q1 (by simp), hkq.cell q2 (by simp), hkq.cell q3 (by simp), hkq.cell q4 (by simp), hkq.cell c4' (by simp)⟩ | exact ⟨hkp.cell q1 (by simp), hkp.cell q2 (by simp), hkp.cell q3 (by simp), hkp.cell q4 (by simp), hkp.cell c4' (by simp)⟩ | exact ⟨q1, q2, q3, q4, c4'⟩ | assumption)
    (first
      | (go_at_call 70; refine (place_any (h.keeps hkp) h2 h3).mono ?_; rintro e wq ⟨rfl, hkq0⟩; have hkq : Keeps [] w wq := hkp.trans hkq0)
      | (go_at_call 70; refine (place_any (h.keeps ((Keeps.refl [] w).drew)) h0 h1).mono ?_; rintro e wp ⟨rfl, hkp0⟩; have hkp : Keeps [] w wp := ((Keeps.refl _ _).drew).trans hkp0)
      | (go_at_call 83; refine (tswap_any (h.keeps hkq).tab hv p0 p1 p3 p4 (by omega) (by omega)).mono ?_; rintro e w1 ⟨r, N1, last1, sz1, rfl, hT1, hs1, hok1, hl1, hl2, hsz1, hk10⟩; have hk1 : Keeps [t, bn, bm] w w1 := (hkq.mono (by simp)).trans hk10))
  go_wp2_with fail
  go_ret
  exact ⟨r, N1, last1, sz1, rfl, hT1, hs1, hok1.1, fun a => (hok1.2 _).trans (FV_swap h.tab.wf hf h0 h1 h2 h3 a).symm, hl1, by omega, by omega, hk1⟩


end Go.Proofs.YtmgjegokkbghlaaGreat
