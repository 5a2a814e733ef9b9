/- The walks of the closures. -/
import Derived.Test.YtmgjegokkbghlaaGreatPlace
namespace Go.Proofs.YtmgjegokkbghlaaGreat
open Go.RowKit Go.Maps Bdd
attribute [local go_sem ↓] Go.wp_at_zero Go.wp_at_succ

/-- a cell that is none of the table's lies in none of its blocks -/
theorem TabAt.far {w : World} {t bn bm sz : Nat} {N : Tab} {top last : Int} (h : TabAt w t bn bm sz N top last) {c : Nat} {v : Value} (hc : w.cell? ⟨c, 0, none⟩ = some v) (hv : ∀ b, v ≠ .map b) : c ∉ [t, bn, bm] := by
  simp
  refine ⟨fun e => ?_, h.names.ne_cell hc, h.nodes.ne_cell hc⟩
  subst e
  have := h.c0
  rw [hc] at this
  cases this
  exact hv _ rfl
theorem StAt.farS {w : World} {s hb t bn bm sz nh L : Nat} {od : Ord L} {lim given : Int} {N : Tab} {last : Int} {H : Int → Option Int} (h : StAt w s hb t bn bm sz nh od lim given N last H) : s ∉ [t, bn, bm] := h.tab.far h.c0 (fun _ e => by cases e)

set_option maxRecDepth 100000 in
set_option maxHeartbeats 400000 in
theorem var1_any {w : World} {s hb t bn bm sz nh L c1 c2 : Nat} {od : Ord L} {lim given : Int} {N : Tab} {last : Int} {H : Int → Option Int} (h : StAt w s hb t bn bm sz nh od lim given N last H) {i : Int} (h0 : 0 ≤ i) (h1 : i < L) (hb1 : last + 100000 ≤ 4611686018427387904) (hb2 : sz + 100000 < maxLen)
    (q1 : w.cell? ⟨c1, 0, none⟩ = some (.pointer (some ⟨s, 0, none⟩))) (q2 : w.cell? ⟨c2, 0, none⟩ = some (.int .i64 i)) :
    Calls Tryz.prog 68 #[.pointer (some ⟨c1, 0, none⟩), .pointer (some ⟨c2, 0, none⟩)] w fun e w' => Gives w' t bn bm sz od N last (fun a => a i) w e := by
  have c4 := h.c4
  obtain ⟨p0, p1, p2⟩ := od.r2 i h0 h1
  have n1 := h.tab.far q1 (fun _ e => by cases e)
  have n2 := h.tab.far q2 (fun _ e => by cases e)
  have n3 := h.farS
  go_enter Tryz.func68, Tryz.ntmps68
  go_wp2_with fail
  go_region_held3 (fun w' => w'.cell? ⟨c1, 0, none⟩ = some (.pointer (some ⟨s, 0, none⟩)) ∧ w'.cell? ⟨c2, 0, none⟩ = some (.int .i64 i) ∧ w'.cell? ⟨s, 4, none⟩ = some (.pointer (some ⟨t, 0, none⟩)))
    (first | exact ⟨q1, q2, c4⟩ | exact ⟨hk1.cell q1 n1, hk1.cell q2 n2, hk1.cell c4 n3⟩ | exact ⟨hkp.cell q1 (by simp), hkp.cell q2 (by simp), hkp.cell c4 (by simp)⟩ | assumption)
    (first
      | (go_at_call 70; refine (place_any (h.keeps ((Keeps.refl [] w).drew)) h0 h1).mono ?_; rintro e wp ⟨rfl, hkp0⟩; have hkp : Keeps [] w wp := ((Keeps.refl _ _).drew).trans hkp0)
      | (go_at_call 69; refine (tvariable_any (h.keeps hkp).tab p0 p1 (by omega) (by omega)).mono ?_; rintro e w1 ⟨r, N1, last1, sz1, rfl, hT1, hs1, hok1, hE1, hl1, hl2, hsz1, hk10⟩; have hk1 : Keeps [t, bn, bm] w w1 := (hkp.mono (by simp)).trans hk10))
  go_wp2_with fail
  go_ret
  exact ⟨r, N1, last1, sz1, rfl, hT1, hs1, hok1, fun a => by rw [FV, hE1, p2], hl1, by omega, by omega, hk1⟩

set_option maxRecDepth 100000 in
set_option maxHeartbeats 400000 in
theorem con1_any {w : World} {s hb t bn bm sz nh L c1 : Nat} {od : Ord L} {lim given : Int} {N : Tab} {last : Int} {H : Int → Option Int} (h : StAt w s hb t bn bm sz nh od lim given N last H) {b : Bool} (q1 : w.cell? ⟨c1, 0, none⟩ = some (.bool b)) :
    Calls Tryz.prog 66 #[.pointer (some ⟨c1, 0, none⟩)] w fun e w' => Gives w' t bn bm sz od N last (fun _ => b) w e := by
  cases b with
  | true =>
    go_enter Tryz.func66, Tryz.ntmps66
    go_wp2_with fail
    go_ret
    exact ⟨1, N, last, sz, rfl, h.tab, Sub.refl _, ok_one _, fun a => E_one h.tab.wf _, by omega, by omega, by omega, Keeps.refl _ _⟩
  | false =>
    go_enter Tryz.func66, Tryz.ntmps66
    go_wp2_with fail
    go_ret
    exact ⟨0, N, last, sz, rfl, h.tab, Sub.refl _, ok_zero _, fun a => E_zero h.tab.wf _, by omega, by omega, by omega, Keeps.refl _ _⟩

set_option maxRecDepth 100000 in
set_option maxHeartbeats 400000 in
theorem not1_any {w : World} {s hb t bn bm sz nh L c1 c2 g cap : Nat} {od : Ord L} {lim given : Int} {N : Tab} {last : Int} {H : Int → Option Int} (h : StAt w s hb t bn bm sz nh od lim given N last H) {f : Int} (hf : Ok N 0 f) (hb1 : last + 100000 ≤ 4611686018427387904) (hb2 : sz + 100000 < maxLen)
    (q1 : w.cell? ⟨c1, 0, none⟩ = some (.pointer (some ⟨s, 0, none⟩))) (q2 : w.cell? ⟨c2, 0, none⟩ = some (.slice (some ⟨g, 0, none⟩) 1 cap)) (q3 : w.cell? ⟨g, 0, none⟩ = some (.int .i64 f)) :
    Calls Tryz.prog 71 #[.pointer (some ⟨c1, 0, none⟩), .pointer (some ⟨c2, 0, none⟩)] w fun e w' => Gives w' t bn bm sz od N last (fun a => !FV N od f a) w e := by
  have c4 := h.c4
  have n1 := h.tab.far q1 (fun _ e => by cases e)
  have n2 := h.tab.far q2 (fun _ e => by cases e)
  have n3 := h.tab.far q3 (fun _ e => by cases e)
  have n4 := h.farS
  go_enter Tryz.func71, Tryz.ntmps71
  go_wp2_with fail
  go_region_held3 (fun w' => w'.cell? ⟨c1, 0, none⟩ = some (.pointer (some ⟨s, 0, none⟩)) ∧ w'.cell? ⟨c2, 0, none⟩ = some (.slice (some ⟨g, 0, none⟩) 1 cap) ∧ w'.cell? ⟨g, 0, none⟩ = some (.int .i64 f) ∧ w'.cell? ⟨s, 4, none⟩ = some (.pointer (some ⟨t, 0, none⟩)))
    (first | exact ⟨q1, q2, q3, c4⟩ | exact ⟨hk1.cell q1 n1, hk1.cell q2 n2, hk1.cell q3 n3, hk1.cell c4 n4⟩ | assumption)
    (first
      | (go_at_call 72; refine (tnot_any (h.keeps ((Keeps.refl [] w).drew)).tab hf (by omega) (by omega)).mono ?_; rintro e w1 ⟨r, N1, last1, sz1, rfl, hT1, hs1, hok1, hE1, hl1, hl2, hsz1, hk1⟩))
  go_wp2_with fail
  go_ret
  exact ⟨r, N1, last1, sz1, rfl, hT1, hs1, hok1, fun a => hE1 _, hl1, by omega, by omega, ((Keeps.refl _ _).drew).trans hk1⟩

set_option maxRecDepth 100000 in
set_option maxHeartbeats 400000 in
theorem app1_any {w : World} {s hb t bn bm sz nh L c1 c2 c3 g cap : Nat} {od : Ord L} {lim given : Int} {N : Tab} {last : Int} {H : Int → Option Int} (h : StAt w s hb t bn bm sz nh od lim given N last H) {what f1 f2 : Int} (hf1 : Ok N 0 f1) (hf2 : Ok N 0 f2) (hb1 : last + 100000 ≤ 4611686018427387904) (hb2 : sz + 100000 < maxLen)
    (q1 : w.cell? ⟨c1, 0, none⟩ = some (.pointer (some ⟨s, 0, none⟩))) (q2 : w.cell? ⟨c2, 0, none⟩ = some (.int .i64 what)) (q3 : w.cell? ⟨c3, 0, none⟩ = some (.slice (some ⟨g, 0, none⟩) 2 cap)) (q4 : w.cell? ⟨g, 0, none⟩ = some (.int .i64 f1)) (q5 : w.cell? ⟨g, 1, none⟩ = some (.int .i64 f2)) :
    Calls Tryz.prog 73 #[.pointer (some ⟨c1, 0, none⟩), .pointer (some ⟨c2, 0, none⟩), .pointer (some ⟨c3, 0, none⟩)] w fun e w' => Gives w' t bn bm sz od N last (fun a => app what (FV N od f1 a) (FV N od f2 a)) w e := by
  have c4 := h.c4
  have n1 := h.tab.far q1 (fun _ e => by cases e)
  have n2 := h.tab.far q2 (fun _ e => by cases e)
  have n3 := h.tab.far q3 (fun _ e => by cases e)
  have n4 := h.tab.far q4 (fun _ e => by cases e)
  have n5 := h.farS
  go_enter Tryz.func73, Tryz.ntmps73
  go_wp2_with fail
  go_region_held3 (fun w' => w'.cell? ⟨c1, 0, none⟩ = some (.pointer (some ⟨s, 0, none⟩)) ∧ w'.cell? ⟨c2, 0, none⟩ = some (.int .i64 what) ∧ w'.cell? ⟨c3, 0, none⟩ = some (.slice (some ⟨g, 0, none⟩) 2 cap) ∧ w'.cell? ⟨g, 0, none⟩ = some (.int .i64 f1) ∧ w'.cell? ⟨g, 1, none⟩ = some (.int .i64 f2) ∧ w'.cell? ⟨s, 4, none⟩ = some (.pointer (some ⟨t, 0, none⟩)))
    (first | exact ⟨q1, q2, q3, q4, q5, c4⟩ | exact ⟨hk1.cell q1 n1, hk1.cell q2 n2, hk1.cell q3 n3, hk1.cell q4 n4, hk1.cell q5 n4, hk1.cell c4 n5⟩ | assumption)
    (first
      | (go_at_call 74; refine (combine_any (what := what) (h.keeps ((Keeps.refl [] w).drew)).tab hf1 hf2 (by omega) (by omega)).mono ?_; rintro e w1 ⟨r, N1, last1, sz1, rfl, hT1, hs1, hok1, hE1, hl1, hl2, hsz1, hk1⟩))
  go_wp2_with fail
  go_ret
  exact ⟨r, N1, last1, sz1, rfl, hT1, hs1, hok1, fun a => hE1 _, hl1, by omega, by omega, ((Keeps.refl _ _).drew).trans hk1⟩

set_option maxRecDepth 100000 in
set_option maxHeartbeats 400000 in
theorem cho1_any {w : World} {s hb t bn bm sz nh L c1 c2 g cap : Nat} {od : Ord L} {lim given : Int} {N : Tab} {last : Int} {H : Int → Option Int} (h : StAt w s hb t bn bm sz nh od lim given N last H) {f1 f2 f3 : Int} (hf1 : Ok N 0 f1) (hf2 : Ok N 0 f2) (hf3 : Ok N 0 f3) (hb1 : last + 100000 ≤ 4611686018427387904) (hb2 : sz + 100000 < maxLen)
    (q1 : w.cell? ⟨c1, 0, none⟩ = some (.pointer (some ⟨s, 0, none⟩))) (q3 : w.cell? ⟨c2, 0, none⟩ = some (.slice (some ⟨g, 0, none⟩) 3 cap)) (q4 : w.cell? ⟨g, 0, none⟩ = some (.int .i64 f1)) (q5 : w.cell? ⟨g, 1, none⟩ = some (.int .i64 f2)) (q6 : w.cell? ⟨g, 2, none⟩ = some (.int .i64 f3)) :
    Calls Tryz.prog 75 #[.pointer (some ⟨c1, 0, none⟩), .pointer (some ⟨c2, 0, none⟩)] w fun e w' => Gives w' t bn bm sz od N last (fun a => if FV N od f1 a then FV N od f2 a else FV N od f3 a) w e := by
  have c4 := h.c4
  have n1 := h.tab.far q1 (fun _ e => by cases e)
  have n3 := h.tab.far q3 (fun _ e => by cases e)
  have n4 := h.tab.far q4 (fun _ e => by cases e)
  have n5 := h.farS
  go_enter Tryz.func75, Tryz.ntmps75
  go_wp2_with fail
  go_region_held3 (fun w' => w'.cell? ⟨c1, 0, none⟩ = some (.pointer (some ⟨s, 0, none⟩)) ∧ w'.cell? ⟨c2, 0, none⟩ = some (.slice (some ⟨g, 0, none⟩) 3 cap) ∧ w'.cell? ⟨g, 0, none⟩ = some (.int .i64 f1) ∧ w'.cell? ⟨g, 1, none⟩ = some (.int .i64 f2) ∧ w'.cell? ⟨g, 2, none⟩ = some (.int .i64 f3) ∧ w'.cell? ⟨s, 4, none⟩ = some (.pointer (some ⟨t, 0, none⟩)))
    (first | exact ⟨q1, q3, q4, q5, q6, c4⟩ | exact ⟨hk1.cell q1 n1, hk1.cell q3 n3, hk1.cell q4 n4, hk1.cell q5 n4, hk1.cell q6 n4, hk1.cell c4 n5⟩ | assumption)
    (first
      | (go_at_call 76; refine (tchoose_any (h.keeps ((Keeps.refl [] w).drew)).tab hf1 hf2 hf3 (by omega) (by omega)).mono ?_; rintro e w1 ⟨r, N1, last1, sz1, rfl, hT1, hs1, hok1, hE1, hl1, hl2, hsz1, hk1⟩))
  go_wp2_with fail
  go_ret
  exact ⟨r, N1, last1, sz1, rfl, hT1, hs1, hok1, fun a => hE1 _, hl1, by omega, by omega, ((Keeps.refl _ _).drew).trans hk1⟩

end Go.Proofs.YtmgjegokkbghlaaGreat
