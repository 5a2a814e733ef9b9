/- The walk of hold, of one closure. -/
import Derived.Test.YtmgjegokkbghlaaGreatHold
namespace Go.Proofs.YtmgjegokkbghlaaGreat
open Go.RowKit Go.Maps Bdd
attribute [local go_sem ↓] Go.wp_at_zero Go.wp_at_succ

set_option maxRecDepth 100000 in
set_option maxHeartbeats 2000000 in
theorem hold_43 {w : World} {s hb t bn bm sz nh L : Nat} {od : Ord L} {lim given : Int} {N : Tab} {last : Int} {H : Int → Option Int} (h : StAt w s hb t bn bm sz nh od lim given N last H) (htr : Trim N H) {V : Int → Option Fun} (hV : ∀ x, V x = (H x).map (FV N od)) {lb : Int} (hlb : last ≤ lb) (hgv : ∀ x, (V x).isSome = true → x ≤ given)
    (hsz0 : sz ≤ nh * (pw L - 1)) (hn60 : nh ≤ 60) (hg1 : given + 1 ≤ 4611686018427387904) {F : Fun} (v1 v2 v3 : Value) (hm : Calls Tryz.prog 73 #[v1, v2, v3] w.drew fun e w' => Gives w' t bn bm sz od N last F w.drew e) :
    Calls Tryz.prog 65 #[.pointer (some ⟨s, 0, none⟩), .func (.func 73) #[] #[v1, v2, v3]] w fun e w' => Held1 w s hb t bn bm od nh lim given V lb F e w' := by
  have c3 := h.c3
  have hrun := fun ty => h.held.len Tryz.underlying52 ty
  by_cases hnh : 60 ≤ nh
  · have q : (60 : Int) ≤ (nh : Int) := by omega
    clear hm
    go_enter Tryz.func65, Tryz.ntmps65
    go_wp2_with fail
    go_ret2
    exact Or.inl ⟨hnh, rfl, ⟨sz, N, last, H, h, htr, hV, hlb, hgv, hsz0, hn60⟩, Keeps.refl _ _⟩
  · have q : (nh : Int) < 60 := by omega
    have c2 := h.c1
    have g0 := h.g0
    have hml : 100 < maxLen := by decide
    have hnone : H (given + 1) = none := by
      cases hx : H (given + 1) with
      | none => rfl
      | some f =>
        have := hgv (given + 1) (by rw [hV, hx]; rfl)
        omega
    have HM : Hid (Calls Tryz.prog 73 #[v1, v2, v3] w.drew fun e w' => Gives w' t bn bm sz od N last F w.drew e) := hm
    have k0 : Keeps [t, bn, bm, hb] w w.drew := (Keeps.refl _ _).drew
    have HNo : Hid (H (given + 1) = none) := hnone
    have HV : Hid (∀ x, V x = (H x).map (FV N od)) := hV
    clear hm hnone hV
    go_enter Tryz.func65, Tryz.ntmps65
    go_wp2_with fail
    go_region_held3 (fun w' => w'.cell? ⟨s, 3, none⟩ = some (.map (some hb)) ∧ Keeps [t, bn, bm, hb] w w')
      (first | exact ⟨c3, k0⟩ | exact ⟨hst1.c3, k1⟩ | exact ⟨hst2.c3, k2⟩ | assumption)
      (first
        | (go_at_call 73; refine HM.out.mono ?_; rintro e w1 ⟨r, N1, last1, sz1, rfl, hT1, hs1, hok1, hE1, hl1, hl2, hsz1, hk1⟩; have hst1 : StAt w1 s hb t bn bm sz1 nh od lim given N1 last1 H := (h.keeps ((Keeps.refl [] w).drew)).turn hk1 hT1 (fun x f hx => (h.ok x f hx).sub hs1); have k1 : Keeps [t, bn, bm, hb] w w1 := k0.trans (hk1.mono (by simp)); obtain ⟨w2, hr2, hm2, hg2⟩ := hst1.held.update lawInt Tryz.underlying52 (by omega) (keyInt (h := given + 1) (by unfold Fits; omega)) (.int .i64 r); have hst2 : StAt w2 s hb t bn bm sz1 (nh + 1) od lim given N1 last1 (addV H (given + 1) r) := hst1.add hok1 hg2 (hold_nh HNo.out hm2); have k2 : Keeps [t, bn, bm, hb] w w2 := k1.grown hg2 (by simp)))
    go_wp2_with fail
    refine (forget_any hst2 (by omega)).mono ?_
    rintro e w3 ⟨sz3, K, rfl, hst3, hcl, hK1, hK2, hszb, hk3⟩
    have hV3 : ∀ x, addV V (given + 1) F x = (addV H (given + 1) r x).map (FV (keep N1 K) od) := by
      intro x
      by_cases ex : x = given + 1
      · subst ex
        rw [addV_same, addV_same]
        simp only [Option.map_some]
        congr 1
        funext a
        rw [FV_keep hT1.wf hcl hok1 (hK2 _ _ (addV_same _ _ _)), hE1]
      · rw [addV_other _ _ ex, addV_other _ _ ex, HV.out x]
        exact E_trim h.tab.wf hT1.wf hs1 hcl h.ok (fun y f hy => hK2 y f (by rw [addV_other _ _ (by intro e; rw [e, HNo.out] at hy; cases hy)]; exact hy)) x
    have htr3 := trim_keep hcl hK1 hK2
    have HV3 : Hid (∀ x, addV V (given + 1) F x = (addV H (given + 1) r x).map (FV (keep N1 K) od)) := hV3
    have k3 : Keeps [s, hb, t, bn, bm] w w3 := (k2.mono (by simp)).trans (hk3.mono (by simp))
    clear hV3 hr2 hm2
    have d1 := hst3.c0
    have d4 := hst3.c4
    by_cases hlim : (sz3 : Int) ≤ lim
    · have f2 := hst3.f1
      have d2 := hst3.c1
      go_wp2_with fail
      go_region_held3 (fun w' => w'.cell? ⟨s, 4, none⟩ = some (.pointer (some ⟨t, 0, none⟩)) ∧ w'.cell? ⟨s, 0, none⟩ = some (.int .i64 lim))
        (first | exact ⟨d4, d1⟩ | assumption)
        (first
          | (go_at_call 95; refine (len_any (hst3.keeps ((Keeps.refl [] w3).drew)).tab).mono ?_; rintro e w4 ⟨rfl, rfl⟩))
      go_wp2_with fail
      go_ret2
      have hst5 := (hst3.keeps ((Keeps.refl [] w3).drew)).give hg1
      refine Or.inr ⟨by omega, sz3, hszb, (k3.drew).setCell _ (Or.inl (by simp)) _, Or.inl ⟨hlim, rfl, _, _, _, hst5, htr3, HV3.out, by omega, fun x hx => ?_, hszb, by omega⟩⟩
      by_cases ex : x = given + 1
      · omega
      · rw [addV_other _ _ ex] at hx
        have := hgv x hx
        omega
    · have hlim' : lim < (sz3 : Int) := by omega
      have d3 := hst3.c3
      obtain ⟨w5, hr5, hm5, hg5⟩ := (hst3.keeps ((Keeps.refl [] w3).drew)).held.delete lawInt Tryz.underlying52 (keyInt (h := given + 1) (by unfold Fits; omega)) 0
      have hst5 := (hst3.keeps ((Keeps.refl [] w3).drew)).del (given + 1) hg5 (hold_nh' (addV_same _ _ _) hm5)
      rw [del_add _ _ _ HNo.out] at hst5
      clear hlim hm5
      go_wp2_with fail
      go_region_held3 (fun w' => w'.cell? ⟨s, 4, none⟩ = some (.pointer (some ⟨t, 0, none⟩)) ∧ w'.cell? ⟨s, 0, none⟩ = some (.int .i64 lim))
        (first | exact ⟨d4, d1⟩ | assumption)
        (first
          | (go_at_call 95; refine (len_any (hst3.keeps ((Keeps.refl [] w3).drew)).tab).mono ?_; rintro e w4 ⟨rfl, rfl⟩))
      go_wp2_with fail
      refine (forget_any hst5 (by omega)).mono ?_
      rintro e w6 ⟨sz6, K6, rfl, hst6, hcl6, hK61, hK62, hszb6, hk6⟩
      go_wp2_with fail
      go_ret2
      have hV6 : ∀ x, V x = (H x).map (FV (keep (keep N1 K) K6) od) := by
        intro x
        rw [HV.out x, E_trim h.tab.wf hT1.wf hs1 hcl h.ok (fun y f hy => hK2 y f (by rw [addV_other _ _ (by intro e; rw [e, HNo.out] at hy; cases hy)]; exact hy)) x]
        exact E_trim hst5.tab.wf hst5.tab.wf (Sub.refl _) hcl6 hst5.ok hK62 x
      refine Or.inr ⟨by omega, sz3, hszb, ((k3.drew).grown hg5 (by simp)).trans (hk6.mono (by simp)), Or.inr ⟨hlim', rfl, ⟨sz6, _, _, _, hst6, trim_keep hcl6 hK61 hK62, hV6, by omega, hgv, hszb6, hn60⟩, w3, _, _, _, hst3, htr3, HV3.out⟩⟩

end Go.Proofs.YtmgjegokkbghlaaGreat
