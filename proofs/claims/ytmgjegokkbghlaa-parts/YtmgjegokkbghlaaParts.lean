/- Parts. -/
import Derived.Test.YtmgjegokkbghlaaSmallest
namespace Go.Proofs.Ytmgjegokkbghlaa
open Go.RowKit Go.Maps Bdd
attribute [local go_sem ↓] Go.wp_at_zero Go.wp_at_succ

theorem setAt_self (a : Int → Bool) (i : Int) : setAt a i (a i) = a := by
  funext x
  unfold setAt
  by_cases e : x = i
  · rw [if_pos e, e]
  · rw [if_neg e]
theorem swapA_at (a : Int → Bool) (i k u : Int) : swapA a i k u = if u = i then a k else if u = k then a i else a u := rfl
theorem swap_back (a : Int → Bool) (i k : Int) : swapA (swapA a k i) i k = a := by
  funext x
  rw [swapA_at]
  by_cases e1 : x = i
  · rw [if_pos e1, swapA_at, if_pos rfl, e1]
  · rw [if_neg e1]
    by_cases e2 : x = k
    · rw [if_pos e2, swapA_at]
      by_cases e3 : i = k
      · rw [if_pos e3, e2, e3]
      · rw [if_neg e3, if_pos rfl, e2]
    · rw [if_neg e2, swapA_at, if_neg e2, if_neg e1]
theorem ex_or (F : Fun) (i : Int) (a : Int → Bool) : app 1 (F (setAt a i true)) (F (setAt a i false)) = exB (frOf [i, i] [i, i].length) F a := by
  have hfr : ∀ k, frOf [i, i] [i, i].length k = false ↔ k ≠ i := by
    intro k
    simp [frOf]
  have h : exB (frOf [i, i] [i, i].length) F a = true ↔ (F (setAt a i true) = true ∨ F (setAt a i false) = true) := by
    rw [exB_iff]
    constructor
    · rintro ⟨b, hb, hF⟩
      have e : b = setAt a i (b i) := by
        funext x
        unfold setAt
        by_cases e : x = i
        · rw [if_pos e, e]
        · rw [if_neg e]; exact hb x ((hfr x).2 e)
      rw [e] at hF
      cases hbi : b i with
      | true => rw [hbi] at hF; exact Or.inl hF
      | false => rw [hbi] at hF; exact Or.inr hF
    · rintro (hF | hF)
      · exact ⟨_, fun k hk => by unfold setAt; rw [if_neg ((hfr k).1 hk)], hF⟩
      · exact ⟨_, fun k hk => by unfold setAt; rw [if_neg ((hfr k).1 hk)], hF⟩
  cases h1 : F (setAt a i true) <;> cases h2 : F (setAt a i false) <;> cases h3 : exB (frOf [i, i] [i, i].length) F a <;> simp_all [app]

theorem grown_all2 {W0 w : World} {s hb t bn bm sz : Nat} {od : Ord 4} {V : Int → Option Fun} {ms : List Md} {v : Value} {a0 : Option Addr} {len cap : Nat} {zs : Nat → Int} (hS : St w s hb t bn bm od 4 sz 2000 4 V 500000) (hG : Good V ms) (hml : ms.length = 4) (hown : w.ownsRow W0.heap.size 31 17 v 4 (flat ms)) (hsep : ∀ g, v.ownBlock = some g → g ∉ [s, hb, t, bn, bm, od.blk])
    (hW0 : Keeps [] W0 w) (hs0 : ∀ i ∈ [s, hb, t, bn, bm, od.blk], W0.heap.size ≤ i) (hcode : len = 0 ∨ ∃ cb co, a0 = some ⟨cb, co, none⟩ ∧ IntsAt W0 cb co len zs) :
    Calls Try.prog 10 #[.pointer (some ⟨s, 0, none⟩), v, .slice a0 len cap] w fun e w' => ∃ n g cap ms V sz, e = .returned (.slice (some ⟨g, 0, none⟩) n cap) ∧ 4 ≤ n ∧ n ≤ 28 ∧ St w' s hb t bn bm od n sz 2000 n V (500000 + 100000 * n) ∧ Good V ms ∧ ms.length = n ∧ w'.ownsRow W0.heap.size 31 17 (.slice (some ⟨g, 0, none⟩) n cap) n (flat ms) ∧ g ∉ [s, hb, t, bn, bm, od.blk] ∧ Keeps [] W0 w' := by
  rcases hcode with rfl | ⟨cb, co, rfl, hc⟩
  · refine grown_empty.mono ?_
    rintro e w' ⟨rfl, rfl⟩
    obtain ⟨g, cap', hv⟩ := owns_form hown (by omega)
    subst hv
    refine ⟨4, g, cap', ms, V, sz, rfl, by omega, by omega, ?_, hG, hml, hown, hsep g rfl, hW0⟩
    obtain ⟨N, last, H, z1, z2, z3, z4, z5, z6, z7⟩ := hS
    exact ⟨N, last, H, z1, z2, z3, by omega, z5, z6, z7⟩
  · refine (grown_any hS hG hml hown hsep hW0 hs0 hc).mono ?_
    rintro e w' ⟨n, v', ms', V', sz', rfl, h4, h28, hS', hG', hml', hown', hsep', hk'⟩
    obtain ⟨g, cap', hv⟩ := owns_form hown' (by omega)
    subst hv
    exact ⟨n, g, cap', ms', V', sz', rfl, h4, h28, hS', hG', hml', hown', hsep' g rfl, hk'⟩

/-- what stays while the calls are made -/
structure PI (w wk : World) (g n B : Nat) (m : Md) : Prop where
  full : Full wk B m
  cells : ∀ j, j < n → wk.cell? ⟨g, j * 17, none⟩ = some (.int .i64 ((j : Int) + 1))
  keep : Keeps [] w wk
theorem PI.keeps {w a b : World} {g n B : Nat} {m : Md} {S : List Nat} (h : PI w a g n B m) (hk : Keeps S a b) (hB : B ∉ S) (hg : g ∉ S) (hS : ∀ i ∈ S, w.heap.size ≤ i) : PI w b g n B m :=
  ⟨h.full.keeps hk hB, fun j hj => hk.cell (h.cells j hj) hg, ((h.keep.mono (by simp)).trans hk).strike (fun i hi hlt => by have := hS i hi; omega)⟩

/-- a call that makes a function, with its handle under a name -/
theorem Held1.named {w w' : World} {s hb t bn bm L nh : Nat} {od : Ord L} {lim given lb : Int} {V : Int → Option Fun} {F : Fun} {e : Ending} (h : Held1 w s hb t bn bm od nh lim given V lb F e w') (hn : nh < 60) (hl : (((nh + 1) * (pw L - 1) : Nat) : Int) ≤ lim) :
    ∃ q V' sz, e = .returned (.tuple #[.int .i64 q, .int .i64 0]) ∧ given + 1 ≤ q ∧ q ≤ given + 1 ∧ St w' s hb t bn bm od (nh + 1) sz lim q V' (lb + 100000) ∧ V' q = some F ∧ (∀ x, x ≤ given → V' x = V x) ∧ Keeps [s, hb, t, bn, bm, od.blk] w w' := by
  obtain ⟨rfl, ⟨sz, hS⟩, hk⟩ := h.ok hn hl
  exact ⟨given + 1, _, sz, rfl, Int.le_refl _, Int.le_refl _, hS, addV_same _ _ _, fun x hx => addV_other _ _ (by omega), hk⟩

set_option maxRecDepth 100000 in
set_option maxHeartbeats 40000000 in
theorem parts_walk {w : World} {a0 : Option Addr} {len cap : Nat} {zs : Nat → Int} {which v0 w0 : Int} (hw : Fits which) (hv0 : Fits v0) (hw0 : Fits w0) (hcode : len = 0 ∨ ∃ cb co, a0 = some ⟨cb, co, none⟩ ∧ IntsAt w cb co len zs) :
    Calls Try.prog 5 #[.slice a0 len cap, .int .i64 which, .int .i64 v0, .int .i64 w0] w fun e w' => e = .returned (.bool true) ∧ Keeps [] w w' := by
  have q27 : ∀ (w : World) (a : Option Addr) (n c n' c' : Nat), (binOp .eql 24 (.slice a n c) (.slice none n' c')).run Try.prog w = .ok (.bool a.isNone) w := fun w a n c n' c' => Lib.run_eql_slice_nil w _ _ a n c n' c' Try.underlying24
  go_enter Try.func5, Try.ntmps5
  go_wp2_with fail
  refine begun_any.mono ?_
  rintro e w1 ⟨s, hb, t, bn, bm, od, sz, v, ms, V, rfl, hod, hS, hG, hml, hown, hsep, hk, j1, j2, j3, j4, j5, j6⟩
  clear hod
  go_wp2_with fail
  refine (grown_all2 hS hG hml hown hsep hk (by simp; omega) hcode).mono ?_
  clear hS hG hml hown hsep hk
  rintro e w2 ⟨n, g, cap2, ms2, V2, sz2, rfl, h4, h28, hS, hG, hml, hown, hgs, hk⟩
  clear hcode
  have hnz : (4 : Int) ≤ (n : Int) := by omega
  have hn28 : (n : Int) ≤ 28 := by omega
  have HG : Hid (Good V2 ms2) := hG
  have Hm : Hid (ms2.length = n) := hml
  have hcells : ∀ j, j < n → w2.cell? ⟨g, j * 17, none⟩ = some (.int .i64 ((j : Int) + 1)) := by
    intro j hj
    have hr := range_of hown hml j (by rw [hml]; exact hj) 0 (.int .i64 ms2[j].1) rfl
    rw [(hG j (by rw [hml]; exact hj)).1] at hr
    exact hr
  have HCe : Hid (∀ j, j < n → w2.cell? ⟨g, j * 17, none⟩ = some (.int .i64 ((j : Int) + 1))) := hcells
  clear hG hml hcells
  go_wp2_with fail
  refine (pick_any hw (by omega) (by omega)).mono ?_
  rintro e w3 ⟨⟨c, rfl, hc0, hc1⟩, rfl⟩
  obtain ⟨kf, rfl⟩ := Int.eq_ofNat_of_zero_le hc0
  have lf : kf < n := by omega
  obtain ⟨m, hm⟩ : ∃ m, m = ms2[kf]'(by rw [Hm.out]; exact lf) := ⟨_, rfl⟩
  have rf : w2.rangeAt g (kf * 17) (mL m) := by rw [hm]; exact range_of hown Hm.out kf _
  obtain ⟨em, F, hV, hF, _⟩ := HG.out kf (by rw [Hm.out]; exact lf)
  rw [← hm] at em hF
  rw [← em] at hV
  have HV : Hid (V2 m.1 = some F) := hV
  have HF : Hid (∀ i, i < 16 → F (asg i) = m.2 i) := hF
  have Hem : Hid (m.1 = (kf : Int) + 1) := em
  have hdep := hS.dep hV
  have HD : Hid (∀ a b : Int → Bool, (∀ i, 0 ≤ i → i < ((4 : Nat) : Int) → a i = b i) → F a = F b) := hdep
  obtain ⟨W1, hW1⟩ : ∃ W1, W1 = w2.alloc (.cells (mA m.1 m.2) 31) := ⟨_, rfl⟩
  have y1 : Keeps [] w2 W1 := by rw [hW1]; exact (Keeps.refl _ _).alloc _
  have hPI : PI w W1 g n w2.heap.size m := ⟨by rw [hW1]; exact full_start _ _, fun j hj => y1.cell (HCe.out j hj) (by simp), hk.trans y1⟩
  have H1 : Hid (W1 = w2.alloc (.cells (mA m.1 m.2) 31)) := hW1
  have hS1 := hS.keeps y1
  have hBs : w2.heap.size ∉ [s, hb, t, bn, bm, od.blk] := fun hin => by have := hS.lts _ hin; omega
  have hs0 : ∀ i ∈ [s, hb, t, bn, bm, od.blk], w.heap.size ≤ i := by simp; omega
  clear hW1 hm em hV hF hdep
  go_upto_region 8 with (first
    | (refine wpList_load_mid rfl 31 _ rfl g (kf * 17) rfl _ _ rf Try.underlying31 rfl size34 ?_)
    | (refine wpList_store_mid rfl 31 _ _ rfl w2.heap.size 0 (mA m.1 m.2) rfl rfl (there34 w2 zA 17 (by decide)) size34 (one34 _ _) ?_; rw [store34, ← H1.out])
    | fail)
  go_frame
  clear rf hown hS hk H1 y1
  generalize hB : w2.heap.size = B at *
  clear hB
  go_wp2_with fail
  refine (pick_any hv0 (by omega) (by omega)).mono ?_
  rintro e w3 ⟨⟨i, rfl, hi0, hi1⟩, rfl⟩
  go_wp2_with fail
  refine (pick_any hw0 (by omega) (by omega)).mono ?_
  rintro e w3 ⟨⟨k, rfl, hk0, hk1⟩, rfl⟩
  have v1 := hPI.full.1
  go_wp2_with fail
  -- high
  refine (restrict_call (v := true) hS1 HV.out hi0 (by omega) (by omega) (by omega)).mono ?_
  intro e w3 hh
  obtain ⟨q1, V3, sz3, rfl, a1, b1, hS3, hV3, hVo3, hk3⟩ := hh.named (by omega) (by simp [pw]; omega)
  clear hh hS1 v1
  have hP3 := hPI.keeps hk3 hBs hgs hs0
  have u3 : Hid (V3 m.1 = some F) := (hVo3 m.1 (by have := Hem.out; omega)).trans HV.out
  have Hh3 : Hid (V3 q1 = some fun a => F (setAt a i true)) := hV3
  have Ho3 : Hid (∀ x, x ≤ (n : Int) → V3 x = V2 x) := hVo3
  clear hV3 hVo3 hPI
  have v1 := hP3.full.1
  go_wp2_with fail
  -- low
  refine (restrict_call (v := false) hS3 u3.out hi0 (by omega) (by omega) (by omega)).mono ?_
  intro e w4 hh
  obtain ⟨q2, V4, sz4, rfl, a2, b2, hS4, hV4, hVo4, hk4⟩ := hh.named (by omega) (by simp [pw]; omega)
  clear hh hS3 v1
  have hP4 := hP3.keeps hk4 hBs hgs hs0
  have u4 : Hid (V4 m.1 = some F) := (hVo4 m.1 (by have := Hem.out; omega)).trans u3.out
  have Hh4 : Hid (V4 q1 = some fun a => F (setAt a i true)) := (hVo4 q1 (by omega)).trans Hh3.out
  have Hl4 : Hid (V4 q2 = some fun a => F (setAt a i false)) := hV4
  obtain ⟨ik, hik⟩ := Int.eq_ofNat_of_zero_le hi0
  have Hx4 : Hid (V4 (i + 1) = some fun a => a i) := by
    obtain ⟨_, X, hX, _, hX2⟩ := HG.out ik (by rw [Hm.out]; omega)
    show V4 (i + 1) = some fun a => a i
    rw [hVo4 _ (by omega), Ho3.out _ (by omega), hik, hX, hX2 (by omega)]
  have hci : w4.cell? ⟨g, i.toNat * 17, none⟩ = some (.int .i64 (i + 1)) := by
    rw [hik]; exact hP4.cells ik (by omega)
  clear hV4 hVo4 hP3 hik
  have hin : i < (n : Int) := by omega
  go_wp2_with fail
  -- again
  refine (choosec_any hS4 Hx4.out Hh4.out Hl4.out (by omega) (by omega)).mono ?_
  intro e w5 hh
  obtain ⟨q3, V5, sz5, rfl, a3, b3, hS5, hV5, hVo5, hk5⟩ := hh.named (by omega) (by simp [pw]; omega)
  clear hh hS4 hci
  have hP5 := hP4.keeps hk5 hBs hgs hs0
  have u5 : Hid (V5 m.1 = some F) := (hVo5 m.1 (by have := Hem.out; omega)).trans u4.out
  have Hh5 : Hid (V5 q1 = some fun a => F (setAt a i true)) := (hVo5 q1 (by omega)).trans Hh4.out
  have Hl5 : Hid (V5 q2 = some fun a => F (setAt a i false)) := (hVo5 q2 (by omega)).trans Hl4.out
  have Ha5 : Hid (V5 q3 = some fun a => if a i then F (setAt a i true) else F (setAt a i false)) := hV5
  clear hV5 hVo5 hP4
  have v1 := hP5.full.1
  go_wp2_with fail
  -- one
  refine (same_any hS5 Ha5.out u5.out).mono ?_
  rintro e w6 ⟨o1, rfl, ho1, hk6⟩
  have ho1' : o1 = true := ho1.2 (fun a => by
    have := setAt_self a i
    cases hai : a i
    · rw [hai] at this; simp [this]
    · rw [hai] at this; simp [this])
  subst ho1'
  clear ho1 v1
  have hP6 := hP5.keeps (hk6.mono (S' := [s, hb, t, bn, bm, od.blk]) (by simp)) hBs hgs hs0
  have hS6 := hS5.keeps hk6
  clear hP5 hS5
  go_wp2_with fail
  -- either
  refine (apply_any (what := 1) hS6 Hh5.out Hl5.out (by omega) (by omega) (by omega) (by omega)).mono ?_
  intro e w7 hh
  obtain ⟨q4, V7, sz7, rfl, a4, b4, hS7, hV7, hVo7, hk7⟩ := hh.named (by omega) (by simp [pw]; omega)
  clear hh hS6
  have hP7 := hP6.keeps hk7 hBs hgs hs0
  have u7 : Hid (V7 m.1 = some F) := (hVo7 m.1 (by have := Hem.out; omega)).trans u5.out
  have He7 : Hid (V7 q4 = some fun a => app 1 (F (setAt a i true)) (F (setAt a i false))) := hV7
  clear hV7 hVo7 hP6
  have v1 := hP7.full.1
  go_wp2_with fail
  -- some
  have ka : Keeps [] w7 (w7.alloc (.cells #[.int .i64 i, .int .i64 i] 3)) := (Keeps.refl _ _).alloc _
  refine (exists_call (b := w7.heap.size) (o := 0) (n := 2) (hS7.keeps ka) u7.out [i, i] (by simp) rfl (fun j hj => by
      have : j = 0 ∨ j = 1 := by simp at hj; omega
      rcases this with rfl | rfl
      · exact cell_new _ _ _ rfl rfl
      · exact cell_new _ _ _ rfl rfl) (fun j hj => by
      have : j = 0 ∨ j = 1 := by simp at hj; omega
      rcases this with rfl | rfl
      · exact ⟨hi0, by simpa using hi1⟩
      · exact ⟨hi0, by simpa using hi1⟩) (by omega) (by omega)).mono ?_
  intro e w8 hh
  obtain ⟨q5, V8, sz8, rfl, a5, b5, hS8, hV8, hVo8, hk8⟩ := hh.named (by omega) (by simp [pw]; omega)
  clear hh hS7 v1
  have hP8 := (hP7.keeps (ka.mono (S' := [s, hb, t, bn, bm, od.blk]) (by simp)) hBs hgs hs0).keeps hk8 hBs hgs hs0
  have u8 : Hid (V8 m.1 = some F) := (hVo8 m.1 (by have := Hem.out; omega)).trans u7.out
  have He8 : Hid (V8 q4 = some fun a => app 1 (F (setAt a i true)) (F (setAt a i false))) := (hVo8 q4 (by omega)).trans He7.out
  have Hs8 : Hid (V8 q5 = some (exB (frOf [i, i] [i, i].length) F)) := hV8
  clear hV8 hVo8 hP7
  go_wp2_with fail
  -- two
  refine (same_any hS8 He8.out Hs8.out).mono ?_
  rintro e w9 ⟨o2, rfl, ho2, hk9⟩
  have ho2' : o2 = true := ho2.2 (fun a => ex_or F i a)
  subst ho2'
  clear ho2
  have hP9 := hP8.keeps (hk9.mono (S' := [s, hb, t, bn, bm, od.blk]) (by simp)) hBs hgs hs0
  have hS9 := hS8.keeps hk9
  clear hP8 hS8
  have v1 := hP9.full.1
  go_wp2_with fail
  -- turned
  refine (swap_call hS9 u8.out hi0 (by omega) hk0 (by omega) (by omega) (by omega)).mono ?_
  intro e w10 hh
  obtain ⟨q6, V10, sz10, rfl, a6, b6, hS10, hV10, hVo10, hk10⟩ := hh.named (by omega) (by simp [pw]; omega)
  clear hh hS9 v1
  have hP10 := hP9.keeps hk10 hBs hgs hs0
  have u10 : Hid (V10 m.1 = some F) := (hVo10 m.1 (by have := Hem.out; omega)).trans u8.out
  have Ht10 : Hid (V10 q6 = some fun a => F (swapA a i k)) := hV10
  clear hV10 hVo10 hP9
  go_wp2_with fail
  -- back
  refine (swap_call hS10 Ht10.out hk0 (by omega) hi0 (by omega) (by omega) (by omega)).mono ?_
  intro e w11 hh
  obtain ⟨q7, V11, sz11, rfl, a7, b7, hS11, hV11, hVo11, hk11⟩ := hh.named (by omega) (by simp [pw]; omega)
  clear hh hS10
  have hP11 := hP10.keeps hk11 hBs hgs hs0
  have u11 : Hid (V11 m.1 = some F) := (hVo11 m.1 (by have := Hem.out; omega)).trans u10.out
  have Ht11 : Hid (V11 q6 = some fun a => F (swapA a i k)) := (hVo11 q6 (by omega)).trans Ht10.out
  have Hb11 : Hid (V11 q7 = some fun a => F (swapA (swapA a k i) i k)) := hV11
  clear hV11 hVo11 hP10
  have v1 := hP11.full.1
  go_wp2_with fail
  -- three
  refine (same_any hS11 Hb11.out u11.out).mono ?_
  rintro e w12 ⟨o3, rfl, ho3, hk12⟩
  have ho3' : o3 = true := ho3.2 (fun a => by rw [swap_back])
  subst ho3'
  clear ho3 v1
  have hP12 := hP11.keeps (hk12.mono (S' := [s, hb, t, bn, bm, od.blk]) (by simp)) hBs hgs hs0
  have hS12 := hS11.keeps hk12
  clear hP11 hS11
  go_wp2_with fail
  obtain ⟨ik, rfl⟩ := Int.eq_ofNat_of_zero_le hi0
  obtain ⟨kk, rfl⟩ := Int.eq_ofNat_of_zero_le hk0
  simp only [Int.toNat_natCast]
  have hik4 : ik < 4 := by omega
  have hkk4 : kk < 4 := by omega
  obtain ⟨X, hX⟩ : ∃ X, X = w12.alloc (.cells #[.int .i64 q6, .bool false, .bool false, .bool false, .bool false, .bool false, .bool false, .bool false, .bool false, .bool false, .bool false, .bool false, .bool false, .bool false, .bool false, .bool false, .bool false] 31) := ⟨_, rfl⟩
  rw [← hX]
  have hp0 : Part X w12.heap.size q6 (fun j => m.2 (bin (swapA (asg j) ik kk) 4)) 0 := by rw [hX]; exact part_start _ _ _
  have hkX : Keeps [] w12 X := by rw [hX]; exact (Keeps.refl _ _).alloc _
  have hlB : B < w12.heap.size := cell_lt (p := ⟨B, 0, none⟩) hP12.full.1
  have hSX := hS12.keeps hkX
  have hltS := hS12.lts
  have hFB := hP12.full.keeps hkX (by simp)
  have hkw : Keeps [] w X := hP12.keep.trans hkX
  have h012 : w.heap.size ≤ w12.heap.size := hP12.keep.size
  clear hX hS12 hP12
  generalize w12.heap.size = C at *
  go_loopw [35] (fun y wq => ∃ j : Nat, j ≤ 16 ∧ y = .int .i64 j ∧ Part wq C q6 (fun j => m.2 (bin (swapA (asg j) ik kk) 4)) j ∧ Keeps [C] X wq) (fun y _ => 16 - (intOf y).toNat)
  case atStart => exact ⟨0, by omega, rfl, hp0, Keeps.refl _ _⟩
  case round =>
    clear hp0
    obtain ⟨j, hj, rfl, hp, hkq⟩ := hrel
    by_cases hlt : j < 16
    · as_aux_lemma =>
      have hj0 : (0 : Int) ≤ (j : Int) := by omega
      have hj1 : (j : Int) < 16 := by omega
      have HP : Hid (Part wr C q6 (fun j => m.2 (bin (swapA (asg j) ik kk) 4)) j) := hp
      have hBc := hFB.keeps hkq (by simp; omega)
      obtain ⟨wj, hwj⟩ : ∃ wj, wj = wr := ⟨wr, rfl⟩
      rw [← hwj] at HP hBc hkq ⊢
      clear hwj hp
      go_wp2_with fail
      go_loopw [36, 37] (fun num u wq => ∃ x : Nat, x ≤ 4 ∧ u = .int .i64 x ∧ num = .int .i64 (bin (swapA (asg j) ik kk) x) ∧ wq = wj) (fun _ u _ => 4 - (intOf u).toNat)
      case atStart => exact ⟨0, by omega, rfl, rfl, rfl⟩
      case round =>
        obtain ⟨x, hx, rfl, rfl, rfl⟩ := hrel
        have hb15 := bin_lt (swapA (asg j) ik kk) x
        by_cases hltx : x < 4
        · have hpw : 2 ^ x ≤ 2 ^ 3 := Nat.pow_le_pow_right (by omega) (by omega)
          have HS : Hid (bin (swapA (asg j) ik kk) (x + 1) = 2 * bin (swapA (asg j) ik kk) x + (swapA (asg j) ik kk (x : Int)).toNat) := rfl
          have HA := show Hid (swapA (asg j) ik kk (x : Int) = if (x : Int) = ik then dig j kk else if (x : Int) = kk then dig j ik else dig j x) from swapA_at (asg j) ik kk x
          obtain ⟨nb, hnb⟩ : ∃ nb, nb = bin (swapA (asg j) ik kk) x := ⟨_, rfl⟩
          rw [← hnb] at hb15 HS ⊢
          have hn0 : (0 : Int) ≤ (nb : Int) := by omega
          have hn1 : (nb : Int) ≤ 8 := by omega
          have hx0 : (0 : Int) ≤ (x : Int) := by omega
          have hx1 : (x : Int) < 4 := by omega
          clear hnb hb15 hpw
          have fin : ∀ (fr : Nat) (bb : Bool), fr < 4 → swapA (asg j) ik kk (x : Int) = bb → bin (swapA (asg j) ik kk) (x + 1) = 2 * nb + bb.toNat := fun _ bb _ hbb => by rw [HS.out, hbb]
          have FIN : Hid (∀ bb : Bool, swapA (asg j) ik kk (x : Int) = bb → bin (swapA (asg j) ik kk) (x + 1) = 2 * nb + bb.toNat) := fun bb hbb => fin 0 bb (by omega) hbb
          clear fin HS
          by_cases e1 : (x : Int) = ik
          · have d1 : ((x : Int) == (ik : Int)) = true := by simp [e1]
            have HB : Hid (swapA (asg j) ik kk (x : Int) = dig j kk) := by show _ = _; rw [HA.out, if_pos e1]
            clear e1
            go_wp2_with fail
            refine (bit_any hlt hkk4).mono ?_
            rintro e w5 ⟨rfl, rfl⟩
            cases hd : dig j kk with
            | true =>
              have HN := show Hid _ from FIN.out true (HB.out.trans hd)
              clear hd
              go_wp2_with fail
              go_roundw
              case rel => exact ⟨x + 1, by omega, by go_num, by rw [HN.out]; go_num, trivial⟩
              case measure => simp [intOf]; omega
            | false =>
              have HN := show Hid _ from FIN.out false (HB.out.trans hd)
              clear hd
              go_wp2_with fail
              go_roundw
              case rel => exact ⟨x + 1, by omega, by go_num, by rw [HN.out]; go_num, trivial⟩
              case measure => simp [intOf]; omega
          · have d1 : ((x : Int) == (ik : Int)) = false := by simp; omega
            by_cases e2 : (x : Int) = kk
            · have d2 : ((x : Int) == (kk : Int)) = true := by simp [e2]
              have HB : Hid (swapA (asg j) ik kk (x : Int) = dig j ik) := by show _ = _; rw [HA.out, if_neg e1, if_pos e2]
              clear e1 e2
              go_wp2_with fail
              refine (bit_any hlt hik4).mono ?_
              rintro e w5 ⟨rfl, rfl⟩
              cases hd : dig j ik with
              | true =>
                have HN := show Hid _ from FIN.out true (HB.out.trans hd)
                clear hd
                go_wp2_with fail
                go_roundw
                case rel => exact ⟨x + 1, by omega, by go_num, by rw [HN.out]; go_num, trivial⟩
                case measure => simp [intOf]; omega
              | false =>
                have HN := show Hid _ from FIN.out false (HB.out.trans hd)
                clear hd
                go_wp2_with fail
                go_roundw
                case rel => exact ⟨x + 1, by omega, by go_num, by rw [HN.out]; go_num, trivial⟩
                case measure => simp [intOf]; omega
            · have d2 : ((x : Int) == (kk : Int)) = false := by simp; omega
              have HB : Hid (swapA (asg j) ik kk (x : Int) = dig j x) := by show _ = _; rw [HA.out, if_neg e1, if_neg e2]
              clear e1 e2
              go_wp2_with fail
              refine (bit_any hlt hltx).mono ?_
              rintro e w5 ⟨rfl, rfl⟩
              cases hd : dig j x with
              | true =>
                have HN := show Hid _ from FIN.out true (HB.out.trans hd)
                clear hd
                go_wp2_with fail
                go_roundw
                case rel => exact ⟨x + 1, by omega, by go_num, by rw [HN.out]; go_num, trivial⟩
                case measure => simp [intOf]; omega
              | false =>
                have HN := show Hid _ from FIN.out false (HB.out.trans hd)
                clear hd
                go_wp2_with fail
                go_roundw
                case rel => exact ⟨x + 1, by omega, by go_num, by rw [HN.out]; go_num, trivial⟩
                case measure => simp [intOf]; omega
        · have e : x = 4 := by omega
          subst e
          obtain ⟨nb, hnb⟩ : ∃ nb, nb = bin (swapA (asg j) ik kk) 4 := ⟨_, rfl⟩
          have hpst := part_step HP.out hlt
          rw [← hnb] at hb15 ⊢
          have hmb := hBc.2 nb (by omega)
          have hn0 : (0 : Int) ≤ (nb : Int) := by omega
          have hn1 : (nb : Int) < 16 := by omega
          have p1 := (HP.out.2 j hlt).1
          have p2 := (HP.out.2 j hlt).2
          rw [if_neg (by omega)] at p1
          simp only [← hnb] at hpst
          have HPS := show Hid _ from hpst
          clear hpst hnb
          go_wp2_with fail
          go_roundw
          case rel => exact ⟨j + 1, by omega, by go_num, HPS.out, hkq.setCell _ (Or.inl (by simp)) _⟩
          case measure => simp [intOf]; omega
    · as_aux_lemma =>
      have e : j = 16 := by omega
      subst e
      have hrange := part_full hp
      have hSr := hSX.keepsS hkq (fun x hx => by have := hltS x hx; simp; omega)
      have HT : Hid (∀ q, q < 16 → (fun a => F (swapA a ik kk)) (asg q) = (fun j => m.2 (bin (swapA (asg j) ik kk) 4)) q) := fun q hq => by
        show F (swapA (asg q) ik kk) = m.2 (bin (swapA (asg q) ik kk) 4)
        rw [← HF.out _ (bin_lt _ 4)]
        refine HD.out _ _ (fun x h0 h1 => ?_)
        obtain ⟨xk, rfl⟩ := Int.eq_ofNat_of_zero_le h0
        exact (asg_bin _ xk (by omega)).symm
      clear hp
      have hkr : Keeps [] w wr := ((hkw.mono (by simp)).trans hkq).strike (by simp; omega)
      go_upto_region 38 with fail
      go_step
      go_step
      go_step
      go_step
      refine wpList_load_mid rfl 31 _ rfl C 0 rfl (mL (q6, fun j => m.2 (bin (swapA (asg j) ik kk) 4))) _ hrange Try.underlying31 rfl size34 ?_
      simp only [Act.put, List.setIfInBounds_toArray, set_cons16]
      simp only [List.set_cons_succ, List.set_cons_zero]
      go_wp2_with fail
      refine (values_any hSr Ht11.out (fun j => m.2 (bin (swapA (asg j) ik kk) 4)) HT.out).mono ?_
      rintro e w13 ⟨rfl, hk13⟩
      go_wp2_with fail
      go_ret
      exact ⟨rfl, hkr.trans hk13⟩

end Go.Proofs.Ytmgjegokkbghlaa
