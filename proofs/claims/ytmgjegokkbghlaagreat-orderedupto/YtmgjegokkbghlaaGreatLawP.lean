/- One call of the script, of the kinds up to Size; the whole script. The whole script, by what one call comes to; the script as it comes in. -/
import Derived.Test.YtmgjegokkbghlaaGreatLawM
import Derived.Test.YtmgjegokkbghlaaGreatLawJ
namespace Go.Proofs.YtmgjegokkbghlaaGreat
open Go.RowKit Go.Maps Bdd
set_option linter.unusedVariables false
attribute [local go_sem ↓] Go.wp_at_zero Go.wp_at_succ

/-- a function is made, or refused -/
noncomputable def mkA (A : Abs) (k a b c : Int) (ls : List Int) : Int ⊕ Fun := if k ≤ 6 then mk A k a b c else mkF A k a b c ls
theorem makes_w {w0 w : World} {own : Own} {W K i s ln lc vn vc : Nat} {ps : List Pr} {hs : List Nat} {tg : Tag} {A : Abs} {lb : Int} {la va : Option Addr} {gl : Nat → Int} (hW : WX (fun j => j ≠ i) w0 w own W ps hs K) (hK : K ≤ 4000000000000) (htg : tg = (2, i) ∨ tg = (3, i)) (hA : AbsOk A) (h : PS w own tg s A lb) (hg : A.la + 1 ≤ 4611686018427387904) (hlb : lb + 100000 ≤ 4611686018427387904) {k m a b c : Int} (hk : (2 ≤ k ∧ k ≤ 6) ∨ (12 ≤ k ∧ k ≤ 14)) (ha : Fits a) (hb : Fits b) (hc : Fits c) (hln : ln ≤ 17592186043904) (hl : IntsAt w0 la ln gl) :
    Calls Tryz.prog 14 #[.pointer (some ⟨W, 0, none⟩), .pointer (some ⟨s, 0, none⟩), .agg #[.int .i64 k, .int .i64 m, .int .i64 a, .int .i64 b, .int .i64 c, .slice la ln lc, .slice va vn vc]] w (MadeW (fun j => j ≠ i) w0 w own W ps K tg s A lb (mkA A k a b c ((List.range ln).map gl))) := by
  by_cases h6 : k ≤ 6
  · have e : mkA A k a b c ((List.range ln).map gl) = mk A k a b c := by unfold mkA; rw [if_pos h6]
    rw [e]
    exact (makes_any hA h hg hlb (by omega) ha hb hc).mono (fun e w' hh => hh.world hW htg)
  · have e : mkA A k a b c ((List.range ln).map gl) = mkF A k a b c ((List.range ln).map gl) := by unfold mkA; rw [if_neg h6]
    rw [e]
    obtain rfl | rfl | rfl : k = 12 ∨ k = 13 ∨ k = 14 := by omega
    · exact (makes12 hA h hg hlb _ ha hb hc).mono (fun e w' hh => hh.world hW htg)
    · exact makes13 hW hK htg hA h hg hlb ha hln hl
    · exact (makes14 hA h hg hlb _ ha hb hc).mono (fun e w' hh => hh.world hW htg)
theorem made_w {w : World} {own : Own} {s ln lc vn vc : Nat} {tg : Tag} {A : Abs} {la va : Option Addr} {gl : Nat → Int} (hA : AbsOk A) (h : RW w own tg s A) (hD : Dep A) (hla : A.la < 4611686018427387904) {k m a b c : Int} (hk : (2 ≤ k ∧ k ≤ 6) ∨ (12 ≤ k ∧ k ≤ 14)) (ha : Fits a) (hc : Fits c) (hln : ln ≤ 17592186043904) (hl : IntsAt w la ln gl) (hkn : Known1 A (mkA A k a b c ((List.range ln).map gl))) :
    Calls Tryz.prog 15 #[.pointer (some ⟨s, 0, none⟩), .agg #[.int .i64 k, .int .i64 m, .int .i64 a, .int .i64 b, .int .i64 c, .slice la ln lc, .slice va vn vc]] w (MadeR w own tg s A (mkA A k a b c ((List.range ln).map gl))) := by
  by_cases h6 : k ≤ 6
  · have e : mkA A k a b c ((List.range ln).map gl) = mk A k a b c := by unfold mkA; rw [if_pos h6]
    rw [e] at hkn ⊢
    exact made_any hA h hla (by omega) ha hkn
  · have e : mkA A k a b c ((List.range ln).map gl) = mkF A k a b c ((List.range ln).map gl) := by unfold mkA; rw [if_neg h6]
    rw [e] at hkn ⊢
    obtain rfl | rfl | rfl : k = 12 ∨ k = 13 ∨ k = 14 := by omega
    · exact made12 hA h hD hla _ ha hc hkn
    · exact made13 hA h hD hla ha hln hl hkn
    · exact made14 hA h hD hla _ ha hc hkn

/-- behind the last call on a pair -/
theorem WX.last {w0 w2 w3 : World} {own2 : Own} {W K i : Nat} {ps : List Pr} {hs : List Nat} {x : Pr} {A' : Abs} {lb : Int} (h2 : WX (fun j => j ≠ i) w0 w2 own2 W ps hs K) (hx : ps[i]? = some x) (hA : AbsOk A') (hla : A'.la ≤ (K : Int)) (hlb : lb ≤ 1 + 100000 * (K : Int)) (hp : PS w2 own2 (2, i) x.p A' lb) (hq : PS w2 own2 (3, i) x.q A' lb) (hr : RW w3 (newOwn own2 w2 (4, i)) (4, i) x.r A') (or : Only own2 (4, i) w2 w3) :
    ∃ own', WAt w0 w3 own' W (ps.set i ⟨x.p, x.q, x.r, A'⟩) hs K := by
  have h3 : WX (fun j => j ≠ i) w0 w3 (newOwn own2 w2 (4, i)) W ps hs K := h2.frame or (by simp) (by simp) (fun j hj => by simp) (fun j hj => by simp) (fun j hj => by simpa using hj) (fun j => by simp) (fun b tg hb _ e => newOwn_stays hb e) h2.low.size
  have hp3 : PS w3 (newOwn own2 w2 (4, i)) (2, i) x.p A' lb := hp.frame or (by simp) (fun b hb e => newOwn_stays hb e)
  have hq3 : PS w3 (newOwn own2 w2 (4, i)) (3, i) x.q A' lb := hq.frame or (by simp) (fun b hb e => newOwn_stays hb e)
  refine ⟨newOwn own2 w2 (4, i), h3.low, h3.mine, h3.ow, h3.fr, ?_, h3.c1, h3.c2, fun j y _ hy => ?_, h3.hds, by simp; exact h3.kp, h3.kh⟩
  · rw [flatP_set (x' := ⟨x.p, x.q, x.r, A'⟩) hx rfl, List.length_set]
    exact h3.c0
  · by_cases ej : j = i
    · subst ej
      have hlt : j < ps.length := by
        false_or_by_contra
        rename_i hc
        rw [List.getElem?_eq_none (by omega)] at hx
        cases hx
      rw [List.getElem?_set_self hlt] at hy
      cases hy
      exact ⟨hA, hla, hp3.wider hlb, hq3.wider hlb, hr⟩
    · rw [List.getElem?_set_ne (fun e => ej e.symm)] at hy
      exact h3.prs j y ej hy

set_option maxRecDepth 100000 in
set_option maxHeartbeats 4000000 in
theorem step_old2 {w0 w : World} {own : Own} {W K : Nat} {ps : List Pr} {hs : List Nat} (hW : WAt w0 w own W ps hs K) (hK : K < 4000000000000) (hps : 0 < ps.length) {k m a b c : Int} {la : Option Addr} {ln lc : Nat} {gl : Nat → Int} {va : Option Addr} {vn vc : Nat} {f : Nat → Bool} (hk1 : k ≠ 1) (hk11 : k ≤ 16) (hkf : Fits k) (hm : Fits m) (ha : Fits a) (hb : Fits b) (hc : Fits c) (hvn : vn ≤ 140737488351232) (hv0 : TruthsIn w0 va vn f) (hln : ln ≤ 17592186043904) (hl0 : IntsAt w0 la ln gl) :
    Calls Tryz.prog 9 #[ptr W, opV k m a b c (.slice la ln lc) (.slice va vn vc)] w fun e w' => e = .returned (.bool true) ∧ (∃ own' ps' hs', ps'.length = ps.length ∧ WAt w0 w' own' W ps' hs' (K + 2)) ∧ Free own w w' := by
  obtain ⟨pv, q1, q2, q3, q4⟩ := hW.c0
  obtain ⟨g, cap, rfl⟩ := row_slice q2 hps
  obtain ⟨i, hi, hidx⟩ := pick_pair (m := m) hps (by have := hW.kp; omega)
  obtain ⟨x, hx⟩ : ∃ x, ps[i]? = some x := ⟨_, List.getElem?_eq_getElem hi⟩
  obtain ⟨f0, f1, f2⟩ := flatP_get ps i x hx
  have r0 : w.cell? ⟨g, i * 3, none⟩ = some (.pointer (some ⟨x.p, 0, none⟩)) := by rw [World.ownsRow.cellAt q2 _ (by omega)]; exact f0
  have r1 : w.cell? ⟨g, i * 3 + 1, none⟩ = some (.pointer (some ⟨x.q, 0, none⟩)) := by rw [World.ownsRow.cellAt q2 _ (by omega)]; exact f1
  have r2 : w.cell? ⟨g, i * 3 + 2, none⟩ = some (.pointer (some ⟨x.r, 0, none⟩)) := by rw [World.ownsRow.cellAt q2 _ (by omega)]; exact f2
  have hgl : g < w.heap.size := cell_lt r0
  have hWl : W < w.heap.size := hW.lt
  obtain ⟨n, hn⟩ : ∃ n, n = ps.length := ⟨_, rfl⟩
  rw [← hn] at q1 hidx hi hps
  have hnK : (n : Int) ≤ 4000000000000 := by have := hW.kp; omega
  have hz : ((n : Int) == 0) = false := by simp; omega
  have hz2 : ¬ n = 0 := by omega
  have hi0 : (0 : Int) ≤ (i : Int) := by omega
  have hi1 : (i : Int) < (n : Int) := by omega
  have hne1 : (k == 1) = false := by simpa using hk1
  have HW : Hid (WAt w0 w own W ps hs K) := hW
  have HX : Hid (ps[i]? = some x) := hx
  have HN : Hid (n = ps.length) := hn
  have HV0 : Hid (TruthsIn w0 va vn f) := hv0
  have HL0 : Hid (IntsAt w0 la ln gl) := hl0
  have HF : Hid (Fits k ∧ Fits m ∧ Fits a ∧ Fits b ∧ Fits c) := ⟨hkf, hm, ha, hb, hc⟩
  have HK1 : Hid (k ≠ 1) := hk1
  obtain ⟨p, hp'⟩ : ∃ p, p = x.p := ⟨_, rfl⟩
  obtain ⟨q, hq'⟩ : ∃ q, q = x.q := ⟨_, rfl⟩
  obtain ⟨r, hr'⟩ : ∃ r, r = x.r := ⟨_, rfl⟩
  have HPE : Hid (p = x.p ∧ q = x.q ∧ r = x.r) := ⟨hp', hq', hr'⟩
  rw [← hp'] at r0
  rw [← hq'] at r1
  rw [← hr'] at r2
  clear q2 q3 q4 f0 f1 f2 hW hx hn hv0 hl0 hk1 hp' hq' hr'
  unfold Fits at hm ha hb hc hkf
  show Calls Tryz.prog 9 #[.pointer (some ⟨W, 0, none⟩), .agg #[.int .i64 k, .int .i64 m, .int .i64 a, .int .i64 b, .int .i64 c, .slice la ln lc, .slice va vn vc]] w _
  go_enter Tryz.func9, Tryz.ntmps9
  go_wp2_with fail
  go_region
  obtain ⟨wd, hwd⟩ : ∃ wd, wd = ((w.alloc (.cells #[.int .i64 k, .int .i64 m, .int .i64 a, .int .i64 b, .int .i64 c, .slice la ln lc, .slice va vn vc] 34)).alloc (.cells #[.pointer (some ⟨p, 0, none⟩), .pointer (some ⟨q, 0, none⟩), .pointer (some ⟨r, 0, none⟩)] 44)).drew := ⟨_, rfl⟩
  rw [← hwd]
  have hkd : Keeps [] w wd := by rw [hwd]; exact (((Keeps.refl _ _).alloc _).alloc _).drew
  have ho : ∀ j u, #[Value.int .i64 k, .int .i64 m, .int .i64 a, .int .i64 b, .int .i64 c, .slice la ln lc, .slice va vn vc][j]? = some u → wd.cell? ⟨w.heap.size, j, none⟩ = some u := fun j u h => by
    rw [hwd]
    exact (((Keeps.refl [] _).alloc _).drew).cell (cell_new w _ _ rfl h) (by simp)
  have hpc : ∀ j u, #[Value.pointer (some ⟨p, 0, none⟩), .pointer (some ⟨q, 0, none⟩), .pointer (some ⟨r, 0, none⟩)][j]? = some u → wd.cell? ⟨w.heap.size + 1, j, none⟩ = some u := fun j u h => by
    rw [hwd]
    exact ((Keeps.refl [] _).drew).cell (cell_new _ _ _ (by simp) h) (by simp)
  have o0 := ho 0 _ rfl
  have o1 := ho 1 _ rfl
  have o2 := ho 2 _ rfl
  have o3 := ho 3 _ rfl
  have o4 := ho 4 _ rfl
  have o5 := ho 5 _ rfl
  have o6 := ho 6 _ rfl
  have p0 := hpc 0 _ rfl
  have p1 := hpc 1 _ rfl
  have p2 := hpc 2 _ rfl
  have hWd : WAt w0 wd (newOwn own w (0, 3)) W ps hs K := HW.out.keeps hkd (fun b tg hb _ e => newOwn_stays hb e)
  have HWD : Hid (WAt w0 wd (newOwn own w (0, 3)) W ps hs K) := hWd
  have hsz : w.heap.size + 1 < wd.heap.size := cell_lt p0
  clear hwd ho hpc hWd r0 r1 r2 q1 hidx HW
  by_cases hmk : (2 ≤ k ∧ k ≤ 6) ∨ (12 ≤ k ∧ k ≤ 14)
  · have him : Calls Tryz.prog 13 #[.int .i64 k] wd fun e w' => e = .returned (.bool true) ∧ wd = w' := by
      rcases hmk with h | h
      · exact isMake_yes h
      · exact isMake_yes2 h
    obtain ⟨hA, hla, hpp, hqq, hrr⟩ := HWD.out.prs i x trivial HX.out
    have hD := hpp.deps
    obtain ⟨ownd, hownd⟩ : ∃ ownd, ownd = newOwn own w (0, 3) := ⟨_, rfl⟩
    rw [← hownd] at hpp hqq hrr HWD
    have ob : ownd w.heap.size = (0, 3) := by rw [hownd]; exact newOwn_new (Nat.le_refl _)
    have HE0 : Hid (∀ b, b < w.heap.size → ownd b = own b) := fun b hb => by rw [hownd]; exact newOwn_old hb
    have oc : ownd (w.heap.size + 1) = (0, 3) := by rw [hownd]; exact newOwn_new (by omega)
    obtain ⟨M, hM⟩ : ∃ M, M = mkA x.A k a b c ((List.range ln).map gl) := ⟨_, rfl⟩
    have hfit := HF.out
    have HA : Hid (AbsOk x.A) := hA
    have HLA0 : Hid (x.A.la ≤ (K : Int)) := hla
    have H1 : Hid (∀ (w1 : World) (own1 : Own) (hs1 : List Nat) (K1 : Nat) (tg : Tag) (s : Nat), WX (fun j => j ≠ i) w0 w1 own1 W ps hs1 K1 → K1 ≤ 4000000000000 → tg = (2, i) ∨ tg = (3, i) → PS w1 own1 tg s x.A (1 + 100000 * (K : Int)) → Calls Tryz.prog 14 #[.pointer (some ⟨W, 0, none⟩), .pointer (some ⟨s, 0, none⟩), .agg #[.int .i64 k, .int .i64 m, .int .i64 a, .int .i64 b, .int .i64 c, .slice la ln lc, .slice va vn vc]] w1 (MadeW (fun j => j ≠ i) w0 w1 own1 W ps K1 tg s x.A (1 + 100000 * (K : Int)) M)) := fun w1 own1 hs1 K1 tg s hW1 hK1 htg hps1 => by
      rw [hM]
      exact makes_w hW1 hK1 htg hA hps1 (by omega) (by omega) hmk hfit.2.2.1 hfit.2.2.2.1 hfit.2.2.2.2 hln HL0.out
    have H3 : Hid (∀ (w2 : World) (own2 : Own), Keeps [] w0 w2 → RW w2 own2 (4, i) r x.A → Known1 x.A M → Calls Tryz.prog 15 #[.pointer (some ⟨r, 0, none⟩), .agg #[.int .i64 k, .int .i64 m, .int .i64 a, .int .i64 b, .int .i64 c, .slice la ln lc, .slice va vn vc]] w2 (MadeR w2 own2 (4, i) r x.A M)) := fun w2 own2 hk2 hr2 hkn => by
      rw [hM] at hkn ⊢
      exact made_w hA hr2 hD (by omega) hmk hfit.2.2.1 hfit.2.2.2.2 hln (HL0.out.keeps hk2) hkn
    obtain ⟨X, hX⟩ : ∃ X, X = (madeOf x.A M).1 := ⟨_, rfl⟩
    obtain ⟨Y, hY⟩ : ∃ Y, Y = (madeOf x.A M).2.1 := ⟨_, rfl⟩
    have HXY : Hid (X = (madeOf x.A M).1 ∧ Y = (madeOf x.A M).2.1) := ⟨hX, hY⟩
    have HPP : Hid (PS wd ownd (2, i) p x.A (1 + 100000 * (K : Int))) := by
      show PS wd ownd (2, i) p x.A _
      rw [HPE.out.1]; exact hpp
    have HQQ : Hid (PS wd ownd (3, i) q x.A (1 + 100000 * (K : Int))) := by
      show PS wd ownd (3, i) q x.A _
      rw [HPE.out.2.1]; exact hqq
    have HRR : Hid (RW wd ownd (4, i) r x.A) := by
      show RW wd ownd (4, i) r x.A
      rw [HPE.out.2.2]; exact hrr
    have hWd0 : WX (fun j => j ≠ i) w0 wd ownd W ps hs K := HWD.out.sub (fun _ _ => trivial)
    have HM1 := H1.out wd ownd hs K (2, i) p hWd0 (by omega) (Or.inl rfl) HPP.out
    have HM1' : Hid (Calls Tryz.prog 14 #[.pointer (some ⟨W, 0, none⟩), .pointer (some ⟨p, 0, none⟩), .agg #[.int .i64 k, .int .i64 m, .int .i64 a, .int .i64 b, .int .i64 c, .slice la ln lc, .slice va vn vc]] wd (MadeW (fun j => j ≠ i) w0 wd ownd W ps K (2, i) p x.A (1 + 100000 * (K : Int)) M)) := HM1
    have e1 : (X == X) = true := by simp
    have e2 : (Y == Y) = true := by simp
    clear hA hla hpp hqq hrr hM hfit hX hY hownd hD hWd0 HM1 HPP
    go_wp2_with fail
    refine him.mono ?_
    rintro e w' ⟨rfl, rfl⟩
    go_wp2_with fail
    refine HM1'.out.mono ?_
    intro e w1 hh1
    have he1 := hh1.1
    rw [← HXY.out.1, ← HXY.out.2] at he1
    obtain ⟨_, hkn, own1, hs1, hW1, hp1, hon1, hown1, hfr1⟩ := hh1
    have s0 := hfr1 _ _ ob o0
    have s1 := hfr1 _ _ ob o1
    have s2 := hfr1 _ _ ob o2
    have s3 := hfr1 _ _ ob o3
    have s4 := hfr1 _ _ ob o4
    have s5 := hfr1 _ _ ob o5
    have s6 := hfr1 _ _ ob o6
    have t1 := hfr1 _ _ oc p1
    have t2 := hfr1 _ _ oc p2
    have hsz1 := hon1.size
    have ob1 : own1 w.heap.size = (0, 3) := hown1 _ _ (by omega) (by simp) ob
    have oc1 : own1 (w.heap.size + 1) = (0, 3) := hown1 _ _ (by omega) (by simp) oc
    have HQ1 : Hid (PS w1 own1 (3, i) q x.A (1 + 100000 * (K : Int))) := HQQ.out.frame hon1 (by simp) (fun b hb e => hown1 b _ hb (by simp) e)
    have HR1 : Hid (RW w1 own1 (4, i) r x.A) := HRR.out.frame HA.out hon1 (by simp) (fun b hb e => hown1 b _ hb (by simp) e)
    have HM2 := H1.out w1 own1 hs1 (K + 1) (3, i) q hW1 (by omega) (Or.inr rfl) HQ1.out
    have HM2' : Hid (Calls Tryz.prog 14 #[.pointer (some ⟨W, 0, none⟩), .pointer (some ⟨q, 0, none⟩), .agg #[.int .i64 k, .int .i64 m, .int .i64 a, .int .i64 b, .int .i64 c, .slice la ln lc, .slice va vn vc]] w1 (MadeW (fun j => j ≠ i) w0 w1 own1 W ps (K + 1) (3, i) q x.A (1 + 100000 * (K : Int)) M)) := HM2
    have HS1 : Hid (Known1 x.A M ∧ PS w1 own1 (2, i) p (madeOf x.A M).2.2 (1 + 100000 * (K : Int) + 100000)) := ⟨hkn, hp1⟩
    have HF1 : Hid (Free own w w1 ∧ ∀ b t, b < w.heap.size → t ≠ (0, 0) → own b = t → own1 b = t) := ⟨fun p u h0 hc => hfr1 p u (by rw [HE0.out _ (cell_lt hc)]; exact h0) (hkd.cell hc (by simp)), fun b t hb hne e => hown1 b t (by have := hkd.size; omega) hne (by rw [HE0.out b hb]; exact e)⟩
    subst he1
    clear hkn hW1 hp1 hon1 hown1 hfr1 HM2 o0 o1 o2 o3 o4 o5 o6 p0 p1 p2
    go_wp2_with fail
    refine HM2'.out.mono ?_
    intro e w2 hh2
    have he2 := hh2.1
    rw [← HXY.out.1, ← HXY.out.2] at he2
    obtain ⟨_, hkn2, own2, hs2, hW2, hq2, hon2, hown2, hfr2⟩ := hh2
    have o0 := hfr2 _ _ ob1 s0
    have o1 := hfr2 _ _ ob1 s1
    have o2 := hfr2 _ _ ob1 s2
    have o3 := hfr2 _ _ ob1 s3
    have o4 := hfr2 _ _ ob1 s4
    have o5 := hfr2 _ _ ob1 s5
    have o6 := hfr2 _ _ ob1 s6
    have p2 := hfr2 _ _ oc1 t2
    have HR2 : Hid (RW w2 own2 (4, i) r x.A) := HR1.out.frame HA.out hon2 (by simp) (fun b hb e => hown2 b _ hb (by simp) e)
    have HP2 : Hid (PS w2 own2 (2, i) p (madeOf x.A M).2.2 (1 + 100000 * (K : Int) + 100000)) := HS1.out.2.frame hon2 (by simp) (fun b hb e => hown2 b _ hb (by simp) e)
    have HS2 : Hid (WX (fun j => j ≠ i) w0 w2 own2 W ps hs2 (K + 2) ∧ PS w2 own2 (3, i) q (madeOf x.A M).2.2 (1 + 100000 * (K : Int) + 100000)) := ⟨hW2, hq2⟩
    have hsz0 := hkd.size
    have HF2 : Hid (Free own w w2 ∧ ∀ b t, b < w.heap.size → t ≠ (0, 0) → own b = t → own2 b = t) := ⟨fun p u h0 hc => hfr2 p u (HF1.out.2 _ _ (cell_lt hc) (by simp) h0) (HF1.out.1 p u h0 hc), fun b t hb hne e => hown2 b t (by omega) hne (HF1.out.2 b t hb hne e)⟩
    subst he2
    clear hkn2 hW2 hq2 hon2 hown2 hfr2 s0 s1 s2 s3 s4 s5 s6 t1 t2
    go_wp2_with fail
    refine (H3.out _ _ HS2.out.1.low HR2.out HS1.out.1).mono ?_
    intro e w3 hh3
    have HH3 : Hid (MadeR w2 own2 (4, i) r x.A M e w3) := hh3
    have he3 := hh3.1
    rw [← HXY.out.1, ← HXY.out.2] at he3
    subst he3
    clear hh3
    go_wp2_with fail
    go_ret
    refine ⟨rfl, ?_⟩
    obtain ⟨hw2, hq2⟩ := HS2.out
    have hp2 := HP2.out
    obtain ⟨_, hr3, hon3⟩ := HH3.out
    rw [HPE.out.1] at hp2
    rw [HPE.out.2.1] at hq2
    rw [HPE.out.2.2] at hr3
    obtain ⟨own', hfin⟩ := WX.last hw2 HX.out (HA.out.made M) (by have := made_la x.A M; have := HLA0.out; omega) (by omega) hp2 hq2 hr3 hon3
    exact ⟨⟨own', _, hs2, by simp, hfin⟩, fun p u h0 hc => hon3.cell (HF2.out.1 p u h0 hc) (by rw [HF2.out.2 _ _ (cell_lt hc) (by simp) h0]; simp)⟩
  · have him := isMake_no2 (w := wd) (k := k) (by omega)
    by_cases h7 : k = 7
    · subst h7
      obtain ⟨hA, hla, hpp, hqq, hrr⟩ := HWD.out.prs i x trivial HX.out
      obtain ⟨ownd, hownd⟩ : ∃ ownd, ownd = newOwn own w (0, 3) := ⟨_, rfl⟩
      rw [← hownd] at hpp hqq hrr HWD
      have ob : ownd w.heap.size = (0, 3) := by rw [hownd]; exact newOwn_new (Nat.le_refl _)
      have HE0 : Hid (∀ b, b < w.heap.size → ownd b = own b) := fun b hb => by rw [hownd]; exact newOwn_old hb
      have oc : ownd (w.heap.size + 1) = (0, 3) := by rw [hownd]; exact newOwn_new (by omega)
      have hfit := HF.out
      have HA : Hid (AbsOk x.A) := hA
      obtain ⟨Y, hY⟩ : ∃ Y, Y = (relOf x.A a).1 := ⟨_, rfl⟩
      have e2 : (Y == Y) = true := by simp
      have H1 : Hid (∀ (w1 : World) (own1 : Own) (tg : Tag) (s : Nat), PS w1 own1 tg s x.A (1 + 100000 * (K : Int)) → Calls Tryz.prog 16 #[.pointer (some ⟨s, 0, none⟩), .int .i64 a] w1 fun e w' => e = .returned (.int .i64 Y) ∧ PS w' (newOwn own1 w1 tg) tg s (relOf x.A a).2 (1 + 100000 * (K : Int)) ∧ Only own1 tg w1 w') := fun w1 own1 tg s h => by
        rw [hY]
        exact ps_release hA h hfit.2.2.1
      have H3 : Hid (∀ (w1 : World) (own1 : Own) (tg : Tag) (s : Nat), RW w1 own1 tg s x.A → Calls Tryz.prog 17 #[.pointer (some ⟨s, 0, none⟩), .int .i64 a] w1 fun e w' => e = .returned (.int .i64 Y) ∧ RW w' (newOwn own1 w1 tg) tg s (relOf x.A a).2 ∧ Only own1 tg w1 w') := fun w1 own1 tg s h => by
        rw [hY]
        exact rs_release hA h a
      have HLA : Hid ((relOf x.A a).2.la ≤ ((K + 1 : Nat) : Int)) := by
        show _ ≤ _
        rw [rel_la]
        omega
      have HPP : Hid (PS wd ownd (2, i) p x.A (1 + 100000 * (K : Int))) := by
        show PS wd ownd (2, i) p x.A _
        rw [HPE.out.1]; exact hpp
      have HQQ : Hid (PS wd ownd (3, i) q x.A (1 + 100000 * (K : Int))) := by
        show PS wd ownd (3, i) q x.A _
        rw [HPE.out.2.1]; exact hqq
      have HRR : Hid (RW wd ownd (4, i) r x.A) := by
        show RW wd ownd (4, i) r x.A
        rw [HPE.out.2.2]; exact hrr
      clear hA hla hpp hqq hrr hfit hY hownd
      go_wp2_with fail
      refine him.mono ?_
      rintro e w' ⟨rfl, rfl⟩
      go_wp2_with fail
      refine (H1.out _ _ _ _ HPP.out).mono ?_
      rintro e w1 ⟨rfl, hp1, hon1⟩
      obtain ⟨own1, hown1⟩ : ∃ own1, own1 = newOwn ownd wd (2, i) := ⟨_, rfl⟩
      have s2 := hon1.cell o2 (by show ¬ (ownd w.heap.size = _); rw [ob]; simp)
      have t1 := hon1.cell p1 (by show ¬ (ownd (w.heap.size + 1) = _); rw [oc]; simp)
      have t2 := hon1.cell p2 (by show ¬ (ownd (w.heap.size + 1) = _); rw [oc]; simp)
      have ob1 : own1 w.heap.size = (0, 3) := by rw [hown1]; exact newOwn_stays (by omega) ob
      have oc1 : own1 (w.heap.size + 1) = (0, 3) := by rw [hown1]; exact newOwn_stays (by omega) oc
      have HQ1 : Hid (PS w1 own1 (3, i) q x.A (1 + 100000 * (K : Int))) := HQQ.out.frame hon1 (by simp) (fun b hb e => by rw [hown1]; exact newOwn_stays hb e)
      have HR1 : Hid (RW w1 own1 (4, i) r x.A) := HRR.out.frame HA.out hon1 (by simp) (fun b hb e => by rw [hown1]; exact newOwn_stays hb e)
      have HO1 : Hid (own1 = newOwn ownd wd (2, i)) := hown1
      have HP1 : Hid (PS w1 own1 (2, i) p (relOf x.A a).2 (1 + 100000 * (K : Int)) ∧ Only ownd (2, i) wd w1) := by rw [← hown1] at hp1; exact ⟨hp1, hon1⟩
      clear hp1 hon1 hown1
      go_wp2_with fail
      refine (H1.out _ _ _ _ HQ1.out).mono ?_
      rintro e w2 ⟨rfl, hq2, hon2⟩
      obtain ⟨own2, hown2⟩ : ∃ own2, own2 = newOwn own1 w1 (3, i) := ⟨_, rfl⟩
      have u2 := hon2.cell s2 (by show ¬ (own1 w.heap.size = _); rw [ob1]; simp)
      have v2 := hon2.cell t2 (by show ¬ (own1 (w.heap.size + 1) = _); rw [oc1]; simp)
      have HR2 : Hid (RW w2 own2 (4, i) r x.A) := HR1.out.frame HA.out hon2 (by simp) (fun b hb e => by rw [hown2]; exact newOwn_stays hb e)
      have HO2 : Hid (own2 = newOwn own1 w1 (3, i)) := hown2
      have HQ2 : Hid (PS w2 own2 (3, i) q (relOf x.A a).2 (1 + 100000 * (K : Int)) ∧ Only own1 (3, i) w1 w2) := by rw [← hown2] at hq2; exact ⟨hq2, hon2⟩
      clear hq2 hon2 hown2
      go_wp2_with fail
      refine (H3.out _ _ _ _ HR2.out).mono ?_
      rintro e w3 ⟨rfl, hr3, hon3⟩
      have HR3 : Hid (RW w3 (newOwn own2 w2 (4, i)) (4, i) r (relOf x.A a).2 ∧ Only own2 (4, i) w2 w3) := ⟨hr3, hon3⟩
      clear hr3 hon3
      go_wp2_with fail
      go_ret
      refine ⟨rfl, ?_⟩
      obtain ⟨a1, a2⟩ := HP1.out
      obtain ⟨b1, b2⟩ := HQ2.out
      obtain ⟨c1, c2⟩ := HR3.out
      rw [HPE.out.1] at a1
      rw [HPE.out.2.1] at b1
      rw [HPE.out.2.2] at c1
      obtain ⟨own', hfin⟩ := WX.three HWD.out HX.out HO1.out HO2.out (HA.out.rel a) HLA.out (by omega) a1 a2 b1 b2 c1 c2
      exact ⟨⟨own', _, hs, by simp, hfin.wider (by omega)⟩, Free.three hkd HE0.out HO1.out HO2.out a2 b2 c2⟩
    · have d7 : (k == 7) = false := by simpa using h7
      have d18 : (k == 18) = false := by simp; omega
      have d19 : (k == 19) = false := by simp; omega
      have hfit := HF.out
      have HAK : Hid (Calls Tryz.prog 19 #[.pointer (some ⟨W, 0, none⟩), .agg #[.pointer (some ⟨p, 0, none⟩), .pointer (some ⟨q, 0, none⟩), .pointer (some ⟨r, 0, none⟩)], .agg #[.int .i64 k, .int .i64 m, .int .i64 a, .int .i64 b, .int .i64 c, .slice la ln lc, .slice va vn vc]] wd fun e w' => e = .returned (.bool true) ∧ (∃ own' hs', WAt w0 w' own' W ps hs' (K + 1)) ∧ Free (newOwn own w (0, 3)) wd w') := by
        show Calls Tryz.prog 19 #[.pointer (some ⟨W, 0, none⟩), .agg #[.pointer (some ⟨p, 0, none⟩), .pointer (some ⟨q, 0, none⟩), .pointer (some ⟨r, 0, none⟩)], .agg #[.int .i64 k, .int .i64 m, .int .i64 a, .int .i64 b, .int .i64 c, .slice la ln lc, .slice va vn vc]] wd _
        have hpr := HWD.out.prs i x trivial HX.out
        have kept : ∀ (e : Ending) (w' : World), (e = .returned (.bool true) ∧ Keeps [] wd w') → e = .returned (.bool true) ∧ (∃ own' hs', WAt w0 w' own' W ps hs' (K + 1)) ∧ Free (newOwn own w (0, 3)) wd w' := fun e w' hh => ⟨hh.1, ⟨newOwn own w (0, 3), hs, (HWD.out.keeps hh.2 (fun b tg hb _ e => e)).wider (Nat.le_succ K)⟩, Free.keeps hh.2⟩
        rw [HPE.out.1, HPE.out.2.1, HPE.out.2.2]
        by_cases h8 : k = 8
        · subst h8; exact (asks8 hpr hfit.2.2.1 hfit.2.2.2.1).mono kept
        by_cases h9 : k = 9
        · subst h9
          refine (asks9 HWD.out (by omega) HX.out hfit.2.2.1 hvn HV0.out).mono ?_
          rintro e w' ⟨rfl, ⟨own', h, hh⟩, hfr⟩
          exact ⟨rfl, ⟨own', _, hh⟩, hfr⟩
        by_cases h10 : k = 10
        · subst h10; exact (asks10 hpr hfit.2.2.1 hfit.2.2.2.1).mono kept
        by_cases h11 : k = 11
        · subst h11; exact (asks11 hpr hfit.2.2.1 hfit.2.2.2.1).mono kept
        by_cases h15 : k = 15
        · subst h15
          refine (asks15 HWD.out (by omega) HX.out hfit.2.2.1).mono ?_
          rintro e w' ⟨rfl, ⟨own', h, hh⟩, hfr⟩
          exact ⟨rfl, ⟨own', _, hh⟩, hfr⟩
        by_cases h16 : k = 16
        · subst h16; exact (asks16 hpr hfit.2.2.1).mono kept
        exact (asks0 (by omega)).mono kept
      clear hfit h7 hmk
      go_wp2_with fail
      refine him.mono ?_
      rintro e w' ⟨rfl, rfl⟩
      go_wp2_with fail
      refine HAK.out.mono ?_
      rintro e w1 ⟨rfl, ⟨own', hs', hh⟩, hfr⟩
      have HH : Hid (WAt w0 w1 own' W ps hs' (K + 1)) := hh
      have HFR : Hid (Free own w w1) := fun p u h0 hc => hfr p u (newOwn_stays (cell_lt hc) h0) (hkd.cell hc (by simp))
      clear hh hfr
      go_wp2_with fail
      go_ret
      exact ⟨rfl, ⟨own', ps, hs', rfl, HH.out.wider (by omega)⟩, HFR.out⟩

end Go.Proofs.YtmgjegokkbghlaaGreat

namespace Go.Proofs.YtmgjegokkbghlaaGreat
open Go.RowKit Go.Maps Bdd
set_option linter.unusedVariables false
attribute [local go_sem ↓] Go.wp_at_zero Go.wp_at_succ

/-- what one call comes to, of the kinds up to one -/
def StepsTo (most : Int) : Prop := ∀ (w0 w : World) (own : Own) (W K : Nat) (ps : List Pr) (hs : List Nat) (k m a b c : Int) (la : Option Addr) (ln lc : Nat) (gl : Nat → Int) (va : Option Addr) (vn vc : Nat) (f : Nat → Bool), WAt w0 w own W ps hs K → K < 3999999999999 → 0 < ps.length → k ≤ most → Fits k → Fits m → Fits a → Fits b → Fits c → vn ≤ 140737488351232 → TruthsIn w0 va vn f → ln ≤ 17592186043904 → IntsAt w0 la ln gl →
  Calls Tryz.prog 9 #[.pointer (some ⟨W, 0, none⟩), .agg #[.int .i64 k, .int .i64 m, .int .i64 a, .int .i64 b, .int .i64 c, .slice la ln lc, .slice va vn vc]] w fun e w' => e = .returned (.bool true) ∧ (∃ own' ps' hs', ps.length ≤ ps'.length ∧ WAt w0 w' own' W ps' hs' (K + 2)) ∧ Free own w w'
theorem steps16 : StepsTo 16 := by
  intro w0 w own W K ps hs k m a b c la ln lc gl va vn vc f hW hK hps hk fk fm fa fb fc hvn hv hln hl
  by_cases h1 : k = 1
  · subst h1
    refine (step_new (l := .slice la ln lc) (v := .slice va vn vc) hW (by omega)).mono ?_
    rintro e w' ⟨rfl, ⟨own', ps', hs', hl, hh⟩, hf⟩
    exact ⟨rfl, ⟨own', ps', hs', hl, hh.wider (by omega)⟩, hf⟩
  · refine (step_old2 hW (by omega) hps h1 hk fk fm fa fb fc hvn hv hln hl).mono ?_
    rintro e w' ⟨rfl, ⟨own', ps', hs', hl, hh⟩, hf⟩
    exact ⟨rfl, ⟨own', ps', hs', by omega, hh⟩, hf⟩

/-- a call of the script, in memory -/
def OpIn2 (w : World) (sb so : Nat) : Prop := ∃ (k m a b c : Int) (la : Option Addr) (ln lc : Nat) (gl : Nat → Int) (va : Option Addr) (vn vc : Nat) (f : Nat → Bool), w.cell? ⟨sb, so, none⟩ = some (.int .i64 k) ∧ w.cell? ⟨sb, so + 1, none⟩ = some (.int .i64 m) ∧ w.cell? ⟨sb, so + 2, none⟩ = some (.int .i64 a) ∧ w.cell? ⟨sb, so + 3, none⟩ = some (.int .i64 b) ∧ w.cell? ⟨sb, so + 4, none⟩ = some (.int .i64 c) ∧ w.cell? ⟨sb, so + 5, none⟩ = some (.slice la ln lc) ∧ w.cell? ⟨sb, so + 6, none⟩ = some (.slice va vn vc) ∧ Fits k ∧ Fits m ∧ Fits a ∧ Fits b ∧ Fits c ∧ vn ≤ 140737488351232 ∧ TruthsIn w va vn f ∧ ln ≤ 17592186043904 ∧ IntsAt w la ln gl
/-- the script, in memory -/
def ScriptIn2 (w : World) (sa : Option Addr) (n : Nat) : Prop := n = 0 ∨ ∃ sb so, sa = some ⟨sb, so, none⟩ ∧ ∀ j, j < n → OpIn2 w sb (so + j * 7)

set_option maxRecDepth 100000 in
set_option maxHeartbeats 4000000 in
theorem plays_gen {most : Int} (hmost : Fits most) (HSTEP : StepsTo most) {w : World} {sa : Option Addr} {n cap : Nat} {lo hi : Int} (hn : n ≤ 1600000000000) (hS : ScriptIn2 w sa n) (hlo : Fits lo) (hhi : Fits hi) :
    Calls Tryz.prog 7 #[.slice sa n cap, .int .i64 lo, .int .i64 hi, .int .i64 most] w fun e w' => e = .returned (.bool true) ∧ Keeps [] w w' := by
  obtain ⟨W, hW⟩ : ∃ W, W = w.heap.size := ⟨_, rfl⟩
  obtain ⟨wa, hwa⟩ : ∃ wa, wa = w.alloc (.cells #[.slice none 0 0, .slice none 0 0, .bool false] 29) := ⟨_, rfl⟩
  obtain ⟨owna, hst⟩ : ∃ owna, WAt w wa owna W [] [] 0 := ⟨_, by rw [hW, hwa]; exact WX.start w⟩
  have f0 : Fits 0 := by unfold Fits; omega
  have f1 : Fits 1 := by unfold Fits; omega
  have f3 : Fits 3 := by unfold Fits; omega
  have hnil : TruthsIn w none 0 (fun _ => false) := Or.inl rfl
  have H1 : Hid (Calls Tryz.prog 8 #[.pointer (some ⟨W, 0, none⟩), .agg #[.int .i64 0, .int .i64 0, .int .i64 3, .int .i64 50, .int .i64 0, .slice none 0 0, .slice none 0 0]] wa fun e w' => e = .returned (.bool true) ∧ ∃ own' ps', ps'.length = 1 ∧ WAt w w' own' W ps' [] 1) := by
    refine (begin_good hst (by omega) (n := 3) (by omega) (by omega) (by omega) (by omega)).mono ?_
    rintro e w' ⟨rfl, own', x, _, hh, _⟩
    exact ⟨rfl, own', _, by simp, hh⟩
  have H2 : Hid (∀ (wx : World) (ownx : Own) (ps : List Pr) (hs : List Nat) (K : Nat) (a : Int), ps.length = 1 → K ≤ 2 → Fits a → WAt w wx ownx W ps hs K → Calls Tryz.prog 9 #[.pointer (some ⟨W, 0, none⟩), .agg #[.int .i64 3, .int .i64 0, .int .i64 a, .int .i64 0, .int .i64 0, .slice none 0 0, .slice none 0 0]] wx fun e w' => e = .returned (.bool true) ∧ ∃ own' ps' hs', ps'.length = 1 ∧ WAt w w' own' W ps' hs' (K + 1)) := by
    intro wx ownx ps hs K a hl hK hfa hWx
    refine (step_old hWx (by omega) (by omega) (k := 3) (m := 0) (a := a) (b := 0) (c := 0) (l := .slice none 0 0) (va := none) (vn := 0) (vc := 0) (by omega) (by omega) f3 f0 hfa f0 f0 (by omega) hnil).mono ?_
    rintro e w' ⟨rfl, ⟨own', ps', hs', hl', hh⟩, _⟩
    exact ⟨rfl, own', ps', hs', by omega, hh⟩
  have H3 : Hid (∀ (wx : World) (ownx : Own) (ps : List Pr) (hs : List Nat) (K : Nat), WAt w wx ownx W ps hs K → Calls Tryz.prog 8 #[.pointer (some ⟨W, 0, none⟩), .agg #[.int .i64 0, .int .i64 0, .int .i64 0, .int .i64 50, .int .i64 0, .slice none 0 0, .slice none 0 0]] wx fun e w' => e = .returned (.bool true) ∧ WAt w w' ownx W ps hs K) := by
    intro wx ownx ps hs K hWx
    refine (begin_bad hWx (Or.inl (by omega))).mono ?_
    rintro e w' ⟨rfl, hk⟩
    exact ⟨rfl, hWx.keeps hk (fun b tg hb _ e => e)⟩
  have len1 : ∀ (wx : World) (ownx : Own) (ps : List Pr) (hs : List Nat) (K : Nat), ps.length = 1 → WAt w wx ownx W ps hs K → ∃ g cap, wx.cell? ⟨W, 0, none⟩ = some (.slice (some ⟨g, 0, none⟩) 1 cap) := fun wx ownx ps hs K hl hWx => by
    obtain ⟨pv, q1, q2, _⟩ := hWx.c0
    rw [hl] at q2
    obtain ⟨g, cap, rfl⟩ := row_slice q2 (by omega)
    exact ⟨g, cap, q1⟩
  have HS : Hid (ScriptIn2 w sa n) := hS
  have HL1 : Hid (∀ (wx : World) (ownx : Own) (ps : List Pr) (hs : List Nat) (K : Nat), ps.length = 1 → WAt w wx ownx W ps hs K → ∃ g cap, wx.cell? ⟨W, 0, none⟩ = some (.slice (some ⟨g, 0, none⟩) 1 cap)) := len1
  have hn' : (n : Int) ≤ 1600000000000 := by omega
  unfold Fits at hlo hhi hmost
  have HST0 : Hid (StepsTo most) := HSTEP
  clear hst hS hnil len1 HSTEP
  go_enter Tryz.func7, Tryz.ntmps7
  go_wp2_with fail
  rw [← hwa, ← hW]
  clear hwa hW
  refine H1.out.mono ?_
  rintro e w1 ⟨rfl, own1, ps1, hl1, hW1⟩
  obtain ⟨g1, cap1, x1⟩ := HL1.out _ _ _ _ _ hl1 hW1
  have HW1 : Hid (ps1.length = 1 ∧ WAt w w1 own1 W ps1 [] 1) := ⟨hl1, hW1⟩
  clear hl1 hW1
  go_wp2_with fail
  refine (H2.out w1 own1 ps1 [] 1 0 HW1.out.1 (by omega) f0 HW1.out.2).mono ?_
  rintro e w2 ⟨rfl, own2, ps2, hs2, hl2, hW2⟩
  have HW2 : Hid (ps2.length = 1 ∧ WAt w w2 own2 W ps2 hs2 2) := ⟨hl2, hW2⟩
  clear hl2 hW2 x1
  go_wp2_with fail
  refine (H2.out w2 own2 ps2 hs2 2 1 HW2.out.1 (by omega) f1 HW2.out.2).mono ?_
  rintro e w3 ⟨rfl, own3, ps3, hs3, hl3, hW3⟩
  have HW3 : Hid (ps3.length = 1 ∧ WAt w w3 own3 W ps3 hs3 3) := ⟨hl3, hW3⟩
  clear hl3 hW3
  go_wp2_with fail
  refine (H3.out w3 own3 ps3 hs3 3 HW3.out.2).mono ?_
  rintro e w4 ⟨rfl, hW4⟩
  obtain ⟨g4, cap4, x4⟩ := HL1.out _ _ _ _ _ HW3.out.1 hW4
  have HW4 : Hid (WAt w w4 own3 W ps3 hs3 3) := hW4
  clear hW4
  go_wp2_with fail
  clear x4
  go_loopw [10, 14] (fun ok x wr => ∃ (j : Nat) (b : Bool) (own : Own) (ps : List Pr) (hs : List Nat), j ≤ n ∧ ok = .bool b ∧ x = .int .i64 j ∧ 0 < ps.length ∧ WAt w wr own W ps hs (3 + 2 * j)) (fun _ x _ => n - (intOf x).toNat)
  case atStart => exact ⟨0, true, own3, ps3, hs3, by omega, rfl, rfl, by rw [HW3.out.1]; omega, HW4.out⟩
  case round =>
    clear HW1 HW2 HW3 HW4 H1 H2 H3 HL1
    obtain ⟨j, b, own, ps, hs, hj, rfl, rfl, hps, hWr⟩ := hrel
    have HWR : Hid (WAt w wr own W ps hs (3 + 2 * j)) := hWr
    clear hWr
    by_cases hlt : j < n
    · have hj0 : (0 : Int) ≤ (j : Int) := by omega
      have hj1 : (j : Int) < (n : Int) := by omega
      obtain ⟨sb, so, ea, hops⟩ : ∃ sb so, sa = some ⟨sb, so, none⟩ ∧ ∀ j, j < n → OpIn2 w sb (so + j * 7) := by
        rcases HS.out with h | h
        · omega
        · exact h
      subst ea
      obtain ⟨k, m, a, bb, c, la, ln, lc, gl, va, vn, vc, f, c0, c1, c2, c3, c4, c5, c6, fk, fm, fa, fb, fc, hvn, htr, hln, hil⟩ := hops j hlt
      have low := HWR.out.low
      have d0 := low.cell c0 (by simp)
      have d1 := low.cell c1 (by simp)
      have d2 := low.cell c2 (by simp)
      have d3 := low.cell c3 (by simp)
      have d4 := low.cell c4 (by simp)
      have d5 := low.cell c5 (by simp)
      have d6 := low.cell c6 (by simp)
      have hsb : sb < wr.heap.size := cell_lt d0
      have HTR : Hid (TruthsIn w va vn f) := htr
      have HIL : Hid (IntsAt w la ln gl) := hil
      have HFK : Hid (Fits k ∧ Fits m ∧ Fits a ∧ Fits bb ∧ Fits c) := ⟨fk, fm, fa, fb, fc⟩
      clear hops c0 c1 c2 c3 c4 c5 c6 htr hil low
      unfold Fits at fk fm fa fb fc
      by_cases hkm : most < k
      · go_wp2_with fail
        go_roundw
        case rel => exact ⟨j + 1, b, own, ps, hs, by omega, rfl, by go_num, hps, (HWR.out.keeps ((Keeps.refl _ _).alloc _) (fun b tg hb _ e => e)).wider (by omega)⟩
        case measure => simp [intOf]; omega
      · have hk11 : k ≤ most := by omega
        obtain ⟨wb, hwb⟩ : ∃ wb, wb = wr.alloc (.cells #[.int .i64 k, .int .i64 m, .int .i64 a, .int .i64 bb, .int .i64 c, .slice la ln lc, .slice va vn vc] 34) := ⟨_, rfl⟩
        have hkb : Keeps [] wr wb := by rw [hwb]; exact (Keeps.refl _ _).alloc _
        have hb0 : wb.cell? ⟨wr.heap.size, 0, none⟩ = some (.int .i64 k) := by rw [hwb]; simp
        have hst := HST0.out w wb (newOwn own wr (0, 3)) W (3 + 2 * j) ps hs k m a bb c la ln lc gl va vn vc f (HWR.out.keeps hkb (fun b tg hb _ e => newOwn_stays hb e)) (by omega) hps hk11 HFK.out.1 HFK.out.2.1 HFK.out.2.2.1 HFK.out.2.2.2.1 HFK.out.2.2.2.2 hvn HTR.out hln HIL.out
        have HST : Hid (Calls Tryz.prog 9 #[.pointer (some ⟨W, 0, none⟩), .agg #[.int .i64 k, .int .i64 m, .int .i64 a, .int .i64 bb, .int .i64 c, .slice la ln lc, .slice va vn vc]] wb fun e w' => e = .returned (.bool true) ∧ (∃ own' ps' hs', ps.length ≤ ps'.length ∧ WAt w w' own' W ps' hs' (3 + 2 * j + 2)) ∧ Free (newOwn own wr (0, 3)) wb w') := hst
        clear hst
        go_wp2_with fail
        rw [← hwb]
        clear hwb
        refine HST.out.mono ?_
        rintro e w1 ⟨rfl, ⟨own', ps', hs', hl, hh⟩, hfr⟩
        have e0 : w1.cell? ⟨wr.heap.size, 0, none⟩ = some (.int .i64 k) := hfr _ _ (newOwn_new (Nat.le_refl _)) hb0
        have HH : Hid (WAt w w1 own' W ps' hs' (3 + 2 * j + 2)) := hh
        have HLK : Hid (Calls Tryz.prog 10 #[.pointer (some ⟨W, 0, none⟩)] w1 fun e w' => e = .returned (.bool true) ∧ Keeps [] w1 w') := looks_any hh (by omega)
        clear hh hfr
        by_cases hk1 : k = 1
        · have d1 : (k == 1) = true := by simp [hk1]
          clear hk1
          go_wp2_with fail
          refine HLK.out.mono ?_
          rintro e w2 ⟨rfl, hk2⟩
          go_wp2_with fail
          go_roundw
          case rel => exact ⟨j + 1, true, own', ps', hs', by omega, rfl, by go_num, by omega, (HH.out.keeps hk2 (fun b tg hb _ e => e)).wider (by omega)⟩
          case measure => simp [intOf]; omega
        · have d1 : (k == 1) = false := by simpa using hk1
          clear hk1
          by_cases hlo2 : lo ≤ k
          · have dlo : decide (lo ≤ k) = true := by simpa using hlo2
            go_wp2_with fail
            refine HLK.out.mono ?_
            rintro e w2 ⟨rfl, hk2⟩
            go_wp2_with fail
            go_roundw
            case rel => exact ⟨j + 1, true, own', ps', hs', by omega, rfl, by go_num, by omega, (HH.out.keeps hk2 (fun b tg hb _ e => e)).wider (by omega)⟩
            case measure => simp [intOf]; omega
          · have dlo : decide (lo ≤ k) = false := by simpa using hlo2
            clear hlo2
            go_wp2_with fail
            refine HLK.out.mono ?_
            rintro e w2 ⟨rfl, hk2⟩
            go_wp2_with fail
            go_roundw
            case rel => exact ⟨j + 1, true, own', ps', hs', by omega, rfl, by go_num, by omega, (HH.out.keeps hk2 (fun b tg hb _ e => e)).wider (by omega)⟩
            case measure => simp [intOf]; omega
    · have hj1 : (n : Int) ≤ (j : Int) := by omega
      go_wp2_with fail
      go_ret
      exact ⟨rfl, HWR.out.low⟩


section
variable {H : Type} {enc : TypeId × Value → H} {W : World}
theorem bytesInt : Tryz.prog.bytesOf 3 = 8 := by kernel_rfl
/-- a list of numbers, as it comes in -/
theorem open_nums {fuel : Nat} {c : Value} {x : DataW H × List MemPlace} (h : DataW.trod enc Tryz.prog W 0 (fun _ => true) true fuel 31 [c] = some x) (hw : ∀ n ∈ x.1.weights Tryz.prog 31, n ≤ reachBytes) :
    ∃ va vn vc f, c = .slice va vn vc ∧ vn ≤ 17592186043904 ∧ IntsAt W va vn f := by
  rcases DataW.trod_slice Tryz.underlying31 h with ⟨hcs, hx⟩ | ⟨ad, len, cap, elems, rest, n, _, hcs, hx, hb, hlc, hcm, hel, hcells, hsp, _⟩
  · simp at hcs
    exact ⟨none, 0, 0, fun _ => 0, hcs, by omega, Or.inl rfl⟩
  · simp at hcs
    have hsz : (elems.length + rest.length) * 8 ≤ reachBytes := by
      refine hw _ ?_
      rw [hx]
      simp only [DataW.weights, Tryz.underlying31, bytesInt, List.length_map]
      exact List.mem_cons_self ..
    have hrb : reachBytes = 140737488351232 := by decide
    have hbool : ∀ i, i < len → ∃ b, W.cell? (ad.add i) = some (.int .i64 b) := by
      intro i hi
      have hc := hcells i hi
      rw [List.getElem?_eq_getElem (by omega), cellsInt, Nat.mul_one] at hc
      obtain ⟨cs, h1, h2⟩ := Option.bind_eq_some_iff.1 hc
      obtain ⟨_, hl, hcell⟩ := World.cells?_some h1
      obtain ⟨b, hcs', _, _⟩ := DataW.trod_int Tryz.underlying3 h2
      have h3 := hcell 0 (by omega)
      rw [hcs'] at h3
      refine ⟨b, ?_⟩
      rw [add_none] at h3
      simpa using h3
    by_cases h0 : len = 0
    · exact ⟨some ad, len, cap, fun _ => 0, hcs, by omega, Or.inl h0⟩
    · obtain ⟨b0, hb0⟩ := hbool 0 (by omega)
      obtain ⟨b, off, rfl⟩ := at_plain hb0
      refine ⟨some ⟨b, off, none⟩, len, cap, fun i => if hi : i < len then (hbool i hi).choose else 0, hcs, by omega, Or.inr ⟨b, off, rfl, fun i hi => ?_⟩⟩
      simp only [hi, dif_pos]
      rw [← Addr.add_mid]
      exact (hbool i hi).choose_spec

/-- THE SCRIPT, AS IT COMES IN -/
theorem open_ops2 {a : Option Addr} {len cap fuel : Nat} {x : DataW H × List MemPlace} (h : DataW.trod enc Tryz.prog W 0 (fun _ => true) true fuel 22 [.slice a len cap] = some x) (hw : ∀ n ∈ x.1.weights Tryz.prog 22, n ≤ reachBytes) : ScriptIn2 W a len ∧ len ≤ 1600000000000 := by
  rcases DataW.trod_slice Tryz.underlying22 h with ⟨hcs, hx⟩ | ⟨ad, len', cap', elems, rest, n, _, hcs, hx, hb, hlc, hcm, hel, hcells, hsp, _⟩
  · simp at hcs
    exact ⟨Or.inl hcs.2.1, by omega⟩
  · simp at hcs
    obtain ⟨rfl, rfl, rfl⟩ := hcs
    have hrb : reachBytes = 140737488351232 := by decide
    have hsz : (elems.length + rest.length) * 88 ≤ reachBytes := by
      refine hw _ ?_
      rw [hx]
      simp only [DataW.weights, Tryz.underlying22, bytesOp, List.length_map]
      exact List.mem_cons_self ..
    refine ⟨?_, by omega⟩
    by_cases h0 : len = 0
    · exact Or.inl h0
    have key : ∀ j, j < len → ∃ cs, W.cells? 0 (ad.add (j * 7)) 7 = some cs ∧ ∃ e, elems[j]? = some e ∧ DataW.trod enc Tryz.prog W 0 (fun _ => true) true n 34 cs = some e := by
      intro j hj
      have hc := hcells j hj
      rw [cellsOp] at hc
      rw [List.getElem?_eq_getElem (by omega)] at hc
      obtain ⟨cs, h1, h2⟩ := Option.bind_eq_some_iff.1 hc
      exact ⟨cs, h1, _, List.getElem?_eq_getElem (by omega), h2⟩
    obtain ⟨cs0, hcs0, _⟩ := key 0 (by omega)
    obtain ⟨_, hl0, hcell0⟩ := World.cells?_some hcs0
    have hc00 := hcell0 0 (by omega)
    rw [List.getElem?_eq_getElem (by omega), Nat.zero_mul] at hc00
    rw [add_none] at hc00
    obtain ⟨sb, so, rfl⟩ := at_plain hc00
    refine Or.inr ⟨sb, so, rfl, fun j hj => ?_⟩
    obtain ⟨cs, hcs, e, he, htr⟩ := key j hj
    obtain ⟨_, hl, hcell⟩ := World.cells?_some hcs
    obtain ⟨xs, m, _, hxe, hlen, hxl, hf⟩ := DataW.trod_struct Tryz.underlying34 htr
    have hxl7 : xs.length = 7 := hxl
    have hin : e.1 ∈ elems.map (·.1) := List.mem_map.2 ⟨e, List.mem_of_getElem? he, rfl⟩
    have hwe : ∀ n ∈ e.1.weights Tryz.prog 34, n ≤ reachBytes := fun n hn => by
      refine hw n ?_
      rw [hx]
      simp only [DataW.weights, Tryz.underlying22]
      exact List.mem_cons_of_mem _ (List.mem_append_left _ (weights_all hin n hn))
    have hcj : ∀ i, i < 7 → W.cell? ⟨sb, so + j * 7 + i, none⟩ = cs[i]? := fun i hi => by
      have := hcell i hi
      rw [Addr.add_mid, Addr.add_mid] at this
      exact this
    have hint : ∀ i, i < 5 → ∃ z, cs[i]? = some (.int .i64 z) ∧ Fits z := by
      intro i hi
      have hfi : ∃ fd : Field, fd.type = 3 ∧ fd.offset = i ∧ DataW.trod enc Tryz.prog W 0 (fun _ => true) true m fd.type ((cs.drop fd.offset).take (Tryz.prog.cellsOf fd.type)) = xs[i]? := by
        match i, hi with
        | 0, _ => exact ⟨_, rfl, rfl, hf 0 _ rfl⟩
        | 1, _ => exact ⟨_, rfl, rfl, hf 1 _ rfl⟩
        | 2, _ => exact ⟨_, rfl, rfl, hf 2 _ rfl⟩
        | 3, _ => exact ⟨_, rfl, rfl, hf 3 _ rfl⟩
        | 4, _ => exact ⟨_, rfl, rfl, hf 4 _ rfl⟩
      obtain ⟨fd, t3, of, ht⟩ := hfi
      rw [t3, of, cellsInt, List.getElem?_eq_getElem (show i < xs.length by omega)] at ht
      obtain ⟨z, hz, _, hwf⟩ := DataW.trod_int Tryz.underlying3 ht
      refine ⟨z, ?_, fitsOf hwf⟩
      have : ((cs.drop i).take 1)[0]? = some (.int .i64 z) := by rw [hz]; rfl
      simpa using this
    have h5 : DataW.trod enc Tryz.prog W 0 (fun _ => true) true m 31 ((cs.drop 5).take (Tryz.prog.cellsOf 31)) = xs[5]? := hf 5 _ rfl
    rw [List.getElem?_eq_getElem (show 5 < xs.length by omega), cellsInts] at h5
    have h6 : DataW.trod enc Tryz.prog W 0 (fun _ => true) true m 32 ((cs.drop 6).take (Tryz.prog.cellsOf 32)) = xs[6]? := hf 6 _ rfl
    rw [List.getElem?_eq_getElem (show 6 < xs.length by omega), cellsBools] at h6
    obtain ⟨k, k1, k2⟩ := hint 0 (by omega)
    obtain ⟨mm, m1, m2⟩ := hint 1 (by omega)
    obtain ⟨aa, a1, a2⟩ := hint 2 (by omega)
    obtain ⟨bb, b1, b2⟩ := hint 3 (by omega)
    obtain ⟨cc, c1, c2⟩ := hint 4 (by omega)
    have hlist : ∀ i (hi : i < cs.length), (cs.drop i).take 1 = [cs[i]] := fun i hi => by
      rw [List.drop_eq_getElem_cons hi]
      rfl
    rw [hlist 5 (by omega)] at h5
    rw [hlist 6 (by omega)] at h6
    obtain ⟨la, ln, lc, gl, hL, hln, hIL⟩ := open_nums h5 (fun n hn => hwe n (by
      rw [hxe]
      simp only [DataW.weights, Tryz.underlying34]
      exact DataW.weights_mem_each (j := 5) (t := 31) rfl (by simp [hxl7]) n hn))
    obtain ⟨va, vn, vc, f, hV, hvn, hT⟩ := open_truths h6 (fun n hn => hwe n (by
      rw [hxe]
      simp only [DataW.weights, Tryz.underlying34]
      exact DataW.weights_mem_each (j := 6) (t := 32) rfl (by simp [hxl7]) n hn))
    have g5 : cs[5]? = some (.slice la ln lc) := by rw [List.getElem?_eq_getElem (by omega), hL]
    have g6 : cs[6]? = some (.slice va vn vc) := by rw [List.getElem?_eq_getElem (by omega), hV]
    exact ⟨k, mm, aa, bb, cc, la, ln, lc, gl, va, vn, vc, f, (hcj 0 (by omega)).trans k1, (hcj 1 (by omega)).trans m1, (hcj 2 (by omega)).trans a1, (hcj 3 (by omega)).trans b1, (hcj 4 (by omega)).trans c1, (hcj 5 (by omega)).trans g5, (hcj 6 (by omega)).trans g6, k2, m2, a2, b2, c2, hvn, hT, hln, hIL⟩
end

end Go.Proofs.YtmgjegokkbghlaaGreat
