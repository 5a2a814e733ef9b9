/- starts, levels. -/
import Derived.Test.YtmgjegokkbghlaaGreatDoorSome
namespace Go.Proofs.YtmgjegokkbghlaaGreatDoor
open Go.RowKit Go.Maps Bdd Circ Gram
set_option linter.unusedVariables false

theorem val_one {w : World} {m t bn bm L I K : Nat} {N : Tab} (h : Mk w m t bn bm L I K N) : Val N 1 (fun _ => true) := by
  obtain ⟨sz, last, hT, _, _⟩ := h.tab
  exact ⟨ok_one _, fun a => E_one hT.wf a⟩
theorem val_zero {w : World} {m t bn bm L I K : Nat} {N : Tab} (h : Mk w m t bn bm L I K N) : Val N 0 (fun _ => false) := by
  obtain ⟨sz, last, hT, _, _⟩ := h.tab
  exact ⟨ok_zero _, fun a => E_zero hT.wf a⟩

set_option maxRecDepth 100000 in
set_option maxHeartbeats 1000000 in
theorem starts_any {w : World} {m t bn bm L I K : Nat} {N : Tab} (h : Mk w m t bn bm L I K N) {j : Nat} (hj : j < L) (x : W) (hK : K + 5000 ≤ Big) :
    Calls Tryz.prog 35 #[.pointer (some ⟨m, 0, none⟩), .int .i64 (j : Int), .string x] w fun e w' => Res w m t bn bm L I (K + 5000) N (fun a => mayFirst x (a (j : Int))) e w' := by
  have hL4 := h.hL
  have hI3 := h.hI
  have c0 := h.c0
  by_cases h0 : x = zer
  · have q0 : (x.toList == [48]) = true := lit_eq x [48] true (by rw [h0]; rfl)
    have HX := hid_intro h0
    have hmd : Mk w.drew m t bn bm L I K N := h.keeps (S := []) (Keeps.refl [] w).drew (by simp) (by simp) (by simp) (by simp)
    have HMD := hid_intro hmd
    have s0 : w.drew.cell? ⟨m, 0, none⟩ = some (.pointer (some ⟨t, 0, none⟩)) ∧ True := ⟨h.c0, trivial⟩
    clear h h0 hmd c0
    go_enter Tryz.func35, Tryz.ntmps35
    go_wp2_with fail
    go_region_held3 (fun w' => w'.cell? ⟨m, 0, none⟩ = some (.pointer (some ⟨t, 0, none⟩)) ∧ True)
      (first | exact s0 | exact s1 | exact s2 | assumption)
      (first
        | (go_at_call 37; refine (mvariable HMD.out ?z0 ?z1 ?z2).mono ?_; (case z0 => omega); (case z1 => omega); (case z2 => omega); rintro e w1 ⟨r1, N1, rfl, g1, g2, g3, g4⟩; have s1 := And.intro g1.c0 trivial)
        | (go_at_call 39; refine (mnot g1 g3 ?z2).mono ?_; (case z2 => omega); rintro e w2 ⟨r2, N2, rfl, g5, g6, g7, g8⟩; have s2 := And.intro g5.c0 trivial))
    obtain ⟨K2, hK2, g5'⟩ : ∃ K2, K2 ≤ K + 5000 ∧ Mk w2 m t bn bm L I K2 N2 := ⟨_, by omega, g5⟩
    have G5 := hid_intro g5'
    have G7 := hid_intro g7
    have GE := hid_intro (g2.trans g6)
    have hk2 : Keeps [t, bn, bm] w w2 := (((Keeps.refl _ w).drew).trans g4).trans g8
    clear g1 g2 g3 g5 g5' g6 g7 g4 g8 s0 s1 s2 HMD
    go_wp2_with fail
    go_ret
    exact ⟨r2, N2, rfl, G5.out.mono hK2, GE.out, ⟨G7.out.1, fun a => by rw [G7.out.2, HX.out]; rfl⟩, hk2⟩
  · have q0 : (x.toList == [48]) = false := lit_eq x [48] false (decide_eq_false h0)
    have H0 := hid_intro h0
    by_cases h1 : x = one
    · have q1 : (x.toList == [49]) = true := lit_eq x [49] true (by rw [h1]; rfl)
      have H1 := hid_intro h1
      have HC := hid_intro (mvariable h (i := (j : Int)) (by omega) (by omega) (by omega))
      clear h h0 h1
      go_enter Tryz.func35, Tryz.ntmps35
      go_wp2_with fail
      refine Calls.mono HC.out ?_
      rintro e w1 ⟨r1, N1, rfl, g1, g2, g3, g4⟩
      have G1 := hid_intro g1
      have G2 := hid_intro g2
      have G3 := hid_intro g3
      clear g1 g2 g3 HC c0
      go_wp2_with fail
      go_ret
      refine ⟨r1, N1, rfl, G1.out.mono (by omega), G2.out, ⟨G3.out.1, fun a => ?_⟩, g4⟩
      rw [G3.out.2]
      show a (j : Int) = mayFirst x (a (j : Int))
      unfold mayFirst
      rw [if_neg H0.out, if_pos H1.out]
    · have q1 : (x.toList == [49]) = false := lit_eq x [49] false (decide_eq_false h1)
      have H1 := hid_intro h1
      have HM := hid_intro h
      clear h h0 h1
      go_enter Tryz.func35, Tryz.ntmps35
      go_wp2_with fail
      go_ret
      refine ⟨1, N, rfl, HM.out.mono (by omega), Ext.refl _, ⟨(val_one HM.out).1, fun a => ?_⟩, Keeps.refl _ _⟩
      rw [(val_one HM.out).2]
      show true = mayFirst x (a (j : Int))
      unfold mayFirst
      rw [if_neg H0.out, if_neg H1.out]

end Go.Proofs.YtmgjegokkbghlaaGreatDoor
