/- One call of the script, of the kinds up to Size; the whole script. -/
import Derived.Test.YtmgjegokkbghlaaGreatLawO
import Derived.Test.YtmgjegokkbghlaaGreatLawK
namespace Go.Proofs.YtmgjegokkbghlaaGreat
open Go.RowKit Go.Maps Bdd
set_option linter.unusedVariables false
attribute [local go_sem ↓] Go.wp_at_zero Go.wp_at_succ

/-- a function is made, or refused -/
noncomputable def mkA (A : Abs) (k a b c : Int) (ls : List Int) : Int ⊕ Fun := if k ≤ 6 then mk A k a b c else mkF A k a b c ls
theorem makes_w {w0 w : World} {own : Own} {W K i s ln lc vn vc : Nat} {ps : List Pr} {hs : List Nat} {tg : Tag} {A : Abs} {lb : Int} {la va : Option Addr} {gl : Nat → Int} (hW : WX (fun j => j ≠ i) w0 w own W ps hs K) (hK : K ≤ 4000000000000) (htg : tg = (2, i) ∨ tg = (3, i)) (hA : AbsOk A) (h : PS w own tg s A lb) (hg : A.la + 1 ≤ 4611686018427387904) (hlb : lb + 100000 ≤ 4611686018427387904) {k m a b c : Int} (hk : (2 ≤ k ∧ k ≤ 6) ∨ (12 ≤ k ∧ k ≤ 14)) (ha : Fits a) (hb : Fits b) (hc : Fits c) (hln : ln ≤ 17592186043904) (hl : IntsAt w0 la ln gl) :
    Calls Tryz.prog 14 #[.pointer (some ⟨W, 0, none⟩), .pointer (some ⟨s, 0, none⟩), .agg #[.int .i64 k, .int .i64 m, .int .i64 a, .int .i64 b, .int .i64 c, .slice la ln lc, .slice va vn vc]] w (MadeW (fun j => j ≠ i) w0 w own W ps K tg s A lb (mkA A k a b c ((List.range ln).map gl))) := by
  by_cases h6 : k ≤ 6
  · have e : mkA A k a b c ((List.range ln).map gl) = mk A k a b c := by unfold mkA; rw [if_pos h6]
    rw [e]
    exact (makes_any hA h hg hlb (by omega) ha hb hc).mono (fun e w' hh => hh.world hW htg)
  · have e : mkA A k a b c ((List.range ln).map gl) = mkF A k a b c ((List.range ln).map gl) := by unfold mkA; rw [if_neg h6]
    rw [e]
    obtain rfl | rfl | rfl : k = 12 ∨ k = 13 ∨ k = 14 := by omega
    · exact (makes12 hA h hg hlb _ ha hb hc).mono (fun e w' hh => hh.world hW htg)
    · exact makes13 hW hK htg hA h hg hlb ha hln hl
    · exact (makes14 hA h hg hlb _ ha hb hc).mono (fun e w' hh => hh.world hW htg)
theorem made_w {w : World} {own : Own} {s ln lc vn vc : Nat} {tg : Tag} {A : Abs} {la va : Option Addr} {gl : Nat → Int} (hA : AbsOk A) (h : RW w own tg s A) (hD : Dep A) (hla : A.la < 4611686018427387904) {k m a b c : Int} (hk : (2 ≤ k ∧ k ≤ 6) ∨ (12 ≤ k ∧ k ≤ 14)) (ha : Fits a) (hc : Fits c) (hln : ln ≤ 17592186043904) (hl : IntsAt w la ln gl) (hkn : Known1 A (mkA A k a b c ((List.range ln).map gl))) :
    Calls Tryz.prog 15 #[.pointer (some ⟨s, 0, none⟩), .agg #[.int .i64 k, .int .i64 m, .int .i64 a, .int .i64 b, .int .i64 c, .slice la ln lc, .slice va vn vc]] w (MadeR w own tg s A (mkA A k a b c ((List.range ln).map gl))) := by
  by_cases h6 : k ≤ 6
  · have e : mkA A k a b c ((List.range ln).map gl) = mk A k a b c := by unfold mkA; rw [if_pos h6]
    rw [e] at hkn ⊢
    exact made_any hA h hla (by omega) ha hkn
  · have e : mkA A k a b c ((List.range ln).map gl) = mkF A k a b c ((List.range ln).map gl) := by unfold mkA; rw [if_neg h6]
    rw [e] at hkn ⊢
    obtain rfl | rfl | rfl : k = 12 ∨ k = 13 ∨ k = 14 := by omega
    · exact made12 hA h hD hla _ ha hc hkn
    · exact made13 hA h hD hla ha hln hl hkn
    · exact made14 hA h hD hla _ ha hc hkn

/-- behind the last call on a pair -/
theorem WX.last {w0 w2 w3 : World} {own2 : Own} {W K i : Nat} {ps : List Pr} {hs : List Nat} {x : Pr} {A' : Abs} {lb : Int} (h2 : WX (fun j => j ≠ i) w0 w2 own2 W ps hs K) (hx : ps[i]? = some x) (hA : AbsOk A') (hla : A'.la ≤ (K : Int)) (hlb : lb ≤ 1 + 100000 * (K : Int)) (hp : PS w2 own2 (2, i) x.p A' lb) (hq : PS w2 own2 (3, i) x.q A' lb) (hr : RW w3 (newOwn own2 w2 (4, i)) (4, i) x.r A') (or : Only own2 (4, i) w2 w3) :
    ∃ own', WAt w0 w3 own' W (ps.set i ⟨x.p, x.q, x.r, A'⟩) hs K := by
  have h3 : WX (fun j => j ≠ i) w0 w3 (newOwn own2 w2 (4, i)) W ps hs K := h2.frame or (by simp) (by simp) (fun j hj => by simp) (fun j hj => by simp) (fun j hj => by simpa using hj) (fun j => by simp) (fun b tg hb _ e => newOwn_stays hb e) h2.low.size
  have hp3 : PS w3 (newOwn own2 w2 (4, i)) (2, i) x.p A' lb := hp.frame or (by simp) (fun b hb e => newOwn_stays hb e)
  have hq3 : PS w3 (newOwn own2 w2 (4, i)) (3, i) x.q A' lb := hq.frame or (by simp) (fun b hb e => newOwn_stays hb e)
  refine ⟨newOwn own2 w2 (4, i), h3.low, h3.mine, h3.ow, h3.fr, ?_, h3.c1, h3.c2, fun j y _ hy => ?_, h3.hds, by simp; exact h3.kp, h3.kh⟩
  · rw [flatP_set (x' := ⟨x.p, x.q, x.r, A'⟩) hx rfl, List.length_set]
    exact h3.c0
  · by_cases ej : j = i
    · subst ej
      have hlt : j < ps.length := by
        false_or_by_contra
        rename_i hc
        rw [List.getElem?_eq_none (by omega)] at hx
        cases hx
      rw [List.getElem?_set_self hlt] at hy
      cases hy
      exact ⟨hA, hla, hp3.wider hlb, hq3.wider hlb, hr⟩
    · rw [List.getElem?_set_ne (fun e => ej e.symm)] at hy
      exact h3.prs j y ej hy

set_option maxRecDepth 100000 in
set_option maxHeartbeats 4000000 in
theorem step_old2 {w0 w : World} {own : Own} {W K : Nat} {ps : List Pr} {hs : List Nat} (hW : WAt w0 w own W ps hs K) (hK : K < 4000000000000) (hps : 0 < ps.length) {k m a b c : Int} {la : Option Addr} {ln lc : Nat} {gl : Nat → Int} {va : Option Addr} {vn vc : Nat} {f : Nat → Bool} (hk1 : k ≠ 1) (hk11 : k ≤ 16) (hkf : Fits k) (hm : Fits m) (ha : Fits a) (hb : Fits b) (hc : Fits c) (hvn : vn ≤ 140737488351232) (hv0 : TruthsIn w0 va vn f) (hln : ln ≤ 17592186043904) (hl0 : IntsAt w0 la ln gl) :
    Calls Tryz.prog 9 #[ptr W, opV k m a b c (.slice la ln lc) (.slice va vn vc)] w fun e w' => e = .returned (.bool true) ∧ (∃ own' ps' hs', ps'.length = ps.length ∧ WAt w0 w' own' W ps' hs' (K + 2)) ∧ Free own w w' := by
  obtain ⟨pv, q1, q2, q3, q4⟩ := hW.c0
  obtain ⟨g, cap, rfl⟩ := row_slice q2 hps
  obtain ⟨i, hi, hidx⟩ := pick_pair (m := m) hps (by have := hW.kp; omega)
  obtain ⟨x, hx⟩ : ∃ x, ps[i]? = some x := ⟨_, List.getElem?_eq_getElem hi⟩
  obtain ⟨f0, f1, f2⟩ := flatP_get ps i x hx
  have r0 : w.cell? ⟨g, i * 3, none⟩ = some (.pointer (some ⟨x.p, 0, none⟩)) := by rw [World.ownsRow.cellAt q2 _ (by omega)]; exact f0
  have r1 : w.cell? ⟨g, i * 3 + 1, none⟩ = some (.pointer (some ⟨x.q, 0, none⟩)) := by rw [World.ownsRow.cellAt q2 _ (by omega)]; exact f1
  have r2 : w.cell? ⟨g, i * 3 + 2, none⟩ = some (.pointer (some ⟨x.r, 0, none⟩)) := by rw [World.ownsRow.cellAt q2 _ (by omega)]; exact f2
  have hgl : g < w.heap.size := cell_lt r0
  have hWl : W < w.heap.size := hW.lt
  obtain ⟨n, hn⟩ : ∃ n, n = ps.length := ⟨_, rfl⟩
  rw [← hn] at q1 hidx hi hps
  have hnK : (n : Int) ≤ 4000000000000 := by have := hW.kp; omega
  have hz : ((n : Int) == 0) = false := by simp; omega
  have hz2 : ¬ n = 0 := by omega
  have hi0 : (0 : Int) ≤ (i : Int) := by omega
  have hi1 : (i : Int) < (n : Int) := by omega
  have hne1 : (k == 1) = false := by simpa using hk1
  have HW : Hid (WAt w0 w own W ps hs K) := hW
  have HX : Hid (ps[i]? = some x) := hx
  have HN : Hid (n = ps.length) := hn
  have HV0 : Hid (TruthsIn w0 va vn f) := hv0
  have HL0 : Hid (IntsAt w0 la ln gl) := hl0
  have HF : Hid (Fits k ∧ Fits m ∧ Fits a ∧ Fits b ∧ Fits c) := ⟨hkf, hm, ha, hb, hc⟩
  have HK1 : Hid (k ≠ 1) := hk1
  obtain ⟨p, hp'⟩ : ∃ p, p = x.p := ⟨_, rfl⟩
  obtain ⟨q, hq'⟩ : ∃ q, q = x.q := ⟨_, rfl⟩
  obtain ⟨r, hr'⟩ : ∃ r, r = x.r := ⟨_, rfl⟩
  have HPE : Hid (p = x.p ∧ q = x.q ∧ r = x.r) := ⟨hp', hq', hr'⟩
  rw [← hp'] at r0
  rw [← hq'] at r1
  rw [← hr'] at r2
  clear q2 q3 q4 f0 f1 f2 hW hx hn hv0 hl0 hk1 hp' hq' hr'
  unfold Fits at hm ha hb hc hkf
  show Calls Tryz.prog 9 #[.pointer (some ⟨W, 0, none⟩), .agg #[.int .i64 k, .int .i64 m, .int .i64 a, .int .i64 b, .int .i64 c, .slice la ln lc, .slice va vn vc]] w _
  go_enter Tryz.func9, Tryz.ntmps9
  go_wp2_with fail
  go_region
  obtain ⟨wd, hwd⟩ : ∃ wd, wd = ((w.alloc (.cells #[.int .i64 k, .int .i64 m, .int .i64 a, .int .i64 b, .int .i64 c, .slice la ln lc, .slice va vn vc] 34)).alloc (.cells #[.pointer (some ⟨p, 0, none⟩), .pointer (some ⟨q, 0, none⟩), .pointer (some ⟨r, 0, none⟩)] 44)).drew := ⟨_, rfl⟩
  rw [← hwd]
  have hkd : Keeps [] w wd := by rw [hwd]; exact (((Keeps.refl _ _).alloc _).alloc _).drew
  have ho : ∀ j u, #[Value.int .i64 k, .int .i64 m, .int .i64 a, .int .i64 b, .int .i64 c, .slice la ln lc, .slice va vn vc][j]? = some u → wd.cell? ⟨w.heap.size, j, none⟩ = some u := fun j u h => by
    rw [hwd]
    exact (((Keeps.refl [] _).alloc _).drew).cell (cell_new w _ _ rfl h) (by simp)
  have hpc : ∀ j u, #[Value.pointer (some ⟨p, 0, none⟩), .pointer (some ⟨q, 0, none⟩), .pointer (some ⟨r, 0, none⟩)][j]? = some u → wd.cell? ⟨w.heap.size + 1, j, none⟩ = some u := fun j u h => by
    rw [hwd]
    exact ((Keeps.refl [] _).drew).cell (cell_new _ _ _ (by simp) h) (by simp)
  have o0 := ho 0 _ rfl
  have o1 := ho 1 _ rfl
  have o2 := ho 2 _ rfl
  have o3 := ho 3 _ rfl
  have o4 := ho 4 _ rfl
  have o5 := ho 5 _ rfl
  have o6 := ho 6 _ rfl
  have p0 := hpc 0 _ rfl
  have p1 := hpc 1 _ rfl
  have p2 := hpc 2 _ rfl
  have hWd : WAt w0 wd (newOwn own w (0, 3)) W ps hs K := HW.out.keeps hkd (fun b tg hb _ e => newOwn_stays hb e)
  have HWD : Hid (WAt w0 wd (newOwn own w (0, 3)) W ps hs K) := hWd
  have hsz : w.heap.size + 1 < wd.heap.size := cell_lt p0
  clear hwd ho hpc hWd r0 r1 r2 q1 hidx HW
  by_cases hmk : (2 ≤ k ∧ k ≤ 6) ∨ (12 ≤ k ∧ k ≤ 14)
  · have him : Calls Tryz.prog 13 #[.int .i64 k] wd fun e w' => e = .returned (.bool true) ∧ wd = w' := by
      rcases hmk with h | h
      · exact isMake_yes h
      · exact isMake_yes2 h
    obtain ⟨hA, hla, hpp, hqq, hrr⟩ := HWD.out.prs i x trivial HX.out
    have hD := hpp.deps
    obtain ⟨ownd, hownd⟩ : ∃ ownd, ownd = newOwn own w (0, 3) := ⟨_, rfl⟩
    rw [← hownd] at hpp hqq hrr HWD
    have ob : ownd w.heap.size = (0, 3) := by rw [hownd]; exact newOwn_new (Nat.le_refl _)
    have HE0 : Hid (∀ b, b < w.heap.size → ownd b = own b) := fun b hb => by rw [hownd]; exact newOwn_old hb
    have oc : ownd (w.heap.size + 1) = (0, 3) := by rw [hownd]; exact newOwn_new (by omega)
    obtain ⟨M, hM⟩ : ∃ M, M = mkA x.A k a b c ((List.range ln).map gl) := ⟨_, rfl⟩
    have hfit := HF.out
    have HA : Hid (AbsOk x.A) := hA
    have HLA0 : Hid (x.A.la ≤ (K : Int)) := hla
    have H1 : Hid (∀ (w1 : World) (own1 : Own) (hs1 : List Nat) (K1 : Nat) (tg : Tag) (s : Nat), WX (fun j => j ≠ i) w0 w1 own1 W ps hs1 K1 → K1 ≤ 4000000000000 → tg = (2, i) ∨ tg = (3, i) → PS w1 own1 tg s x.A (1 + 100000 * (K : Int)) → Calls Tryz.prog 14 #[.pointer (some ⟨W, 0, none⟩), .pointer (some ⟨s, 0, none⟩), .agg #[.int .i64 k, .int .i64 m, .int .i64 a, .int .i64 b, .int .i64 c, .slice la ln lc, .slice va vn vc]] w1 (MadeW (fun j => j ≠ i) w0 w1 own1 W ps K1 tg s x.A (1 + 100000 * (K : Int)) M)) := fun w1 own1 hs1 K1 tg s hW1 hK1 htg hps1 => by
      rw [hM]
      exact makes_w hW1 hK1 htg hA hps1 (by omega) (by omega) hmk hfit.2.2.1 hfit.2.2.2.1 hfit.2.2.2.2 hln HL0.out
    have H3 : Hid (∀ (w2 : World) (own2 : Own), Keeps [] w0 w2 → RW w2 own2 (4, i) r x.A → Known1 x.A M → Calls Tryz.prog 15 #[.pointer (some ⟨r, 0, none⟩), .agg #[.int .i64 k, .int .i64 m, .int .i64 a, .int .i64 b, .int .i64 c, .slice la ln lc, .slice va vn vc]] w2 (MadeR w2 own2 (4, i) r x.A M)) := fun w2 own2 hk2 hr2 hkn => by
      rw [hM] at hkn ⊢
      exact made_w hA hr2 hD (by omega) hmk hfit.2.2.1 hfit.2.2.2.2 hln (HL0.out.keeps hk2) hkn
    obtain ⟨X, hX⟩ : ∃ X, X = (madeOf x.A M).1 := ⟨_, rfl⟩
    obtain ⟨Y, hY⟩ : ∃ Y, Y = (madeOf x.A M).2.1 := ⟨_, rfl⟩
    have HXY : Hid (X = (madeOf x.A M).1 ∧ Y = (madeOf x.A M).2.1) := ⟨hX, hY⟩
    have HPP : Hid (PS wd ownd (2, i) p x.A (1 + 100000 * (K : Int))) := by
      show PS wd ownd (2, i) p x.A _
      rw [HPE.out.1]; exact hpp
    have HQQ : Hid (PS wd ownd (3, i) q x.A (1 + 100000 * (K : Int))) := by
      show PS wd ownd (3, i) q x.A _
      rw [HPE.out.2.1]; exact hqq
    have HRR : Hid (RW wd ownd (4, i) r x.A) := by
      show RW wd ownd (4, i) r x.A
      rw [HPE.out.2.2]; exact hrr
    have hWd0 : WX (fun j => j ≠ i) w0 wd ownd W ps hs K := HWD.out.sub (fun _ _ => trivial)
    have HM1 := H1.out wd ownd hs K (2, i) p hWd0 (by omega) (Or.inl rfl) HPP.out
    have HM1' : Hid (Calls Tryz.prog 14 #[.pointer (some ⟨W, 0, none⟩), .pointer (some ⟨p, 0, none⟩), .agg #[.int .i64 k, .int .i64 m, .int .i64 a, .int .i64 b, .int .i64 c, .slice la ln lc, .slice va vn vc]] wd (MadeW (fun j => j ≠ i) w0 wd ownd W ps K (2, i) p x.A (1 + 100000 * (K : Int)) M)) := HM1
    have e1 : (X == X) = true := by simp
    have e2 : (Y == Y) = true := by simp
    clear hA hla hpp hqq hrr hM hfit hX hY hownd hD hWd0 HM1 HPP
    go_wp2_with fail
    refine him.mono ?_
    rintro e w' ⟨rfl, rfl⟩
    go_wp2_with fail
    refine HM1'.out.mono ?_
    intro e w1 hh1
    have he1 := hh1.1
    rw [← HXY.out.1, ← HXY.out.2] at he1
    obtain ⟨_, hkn, own1, hs1, hW1, hp1, hon1, hown1, hfr1⟩ := hh1
    have s0 := hfr1 _ _ ob o0
    have s1 := hfr1 _ _ ob o1
    have s2 := hfr1 _ _ ob o2
    have s3 := hfr1 _ _ ob o3
    have s4 := hfr1 _ _ ob o4
    have s5 := hfr1 _ _ ob o5
    have s6 := hfr1 _ _ ob o6
    have t1 := hfr1 _ _ oc p1
    have t2 := hfr1 _ _ oc p2
    have hsz1 := hon1.size
    have ob1 : own1 w.heap.size = (0, 3) := hown1 _ _ (by omega) (by simp) ob
    have oc1 : own1 (w.heap.size + 1) = (0, 3) := hown1 _ _ (by omega) (by simp) oc
    have HQ1 : Hid (PS w1 own1 (3, i) q x.A (1 + 100000 * (K : Int))) := HQQ.out.frame hon1 (by simp) (fun b hb e => hown1 b _ hb (by simp) e)
    have HR1 : Hid (RW w1 own1 (4, i) r x.A) := HRR.out.frame HA.out hon1 (by simp) (fun b hb e => hown1 b _ hb (by simp) e)
    have HM2 := H1.out w1 own1 hs1 (K + 1) (3, i) q hW1 (by omega) (Or.inr rfl) HQ1.out
    have HM2' : Hid (Calls Tryz.prog 14 #[.pointer (some ⟨W, 0, none⟩), .pointer (some ⟨q, 0, none⟩), .agg #[.int .i64 k, .int .i64 m, .int .i64 a, .int .i64 b, .int .i64 c, .slice la ln lc, .slice va vn vc]] w1 (MadeW (fun j => j ≠ i) w0 w1 own1 W ps (K + 1) (3, i) q x.A (1 + 100000 * (K : Int)) M)) := HM2
    have HS1 : Hid (Known1 x.A M ∧ PS w1 own1 (2, i) p (madeOf x.A M).2.2 (1 + 100000 * (K : Int) + 100000)) := ⟨hkn, hp1⟩
    have HF1 : Hid (Free own w w1 ∧ ∀ b t, b < w.heap.size → t ≠ (0, 0) → own b = t → own1 b = t) := ⟨fun p u h0 hc => hfr1 p u (by rw [HE0.out _ (cell_lt hc)]; exact h0) (hkd.cell hc (by simp)), fun b t hb hne e => hown1 b t (by have := hkd.size; omega) hne (by rw [HE0.out b hb]; exact e)⟩
    subst he1
    clear hkn hW1 hp1 hon1 hown1 hfr1 HM2 o0 o1 o2 o3 o4 o5 o6 p0 p1 p2
    go_wp2_with fail
    refine HM2'.out.mono ?_
    intro e w2 hh2
    have he2 := hh2.1
    rw [← HXY.out.1, ← HXY.out.2] at he2
    obtain ⟨_, hkn2, own2, hs2, hW2, hq2, hon2, hown2, hfr2⟩ := hh2
    have o0 := hfr2 _ _ ob1 s0
    have o1 := hfr2 _ _ ob1 s1
    have o2 := hfr2 _ _ ob1 s2
    have o3 := hfr2 _ _ ob1 s3
    have o4 := hfr2 _ _ ob1 s4
    have o5 := hfr2 _ _ ob1 s5
    have o6 := hfr2 _ _ ob1 s6
    have p2 := hfr2 _ _ oc1 t2
    have HR2 : Hid (RW w2 own2 (4, i) r x.A) := HR1.out.frame HA.out hon2 (by simp) (fun b hb e => hown2 b _ hb (by simp) e)
    have HP2 : Hid (PS w2 own2 (2, i) p (madeOf x.A M).2.2 (1 + 100000 * (K : Int) + 100000)) := HS1.out.2.frame hon2 (by simp) (fun b hb e => hown2 b _ hb (by simp) e)
    have HS2 : Hid (WX (fun j => j ≠ i) w0 w2 own2 W ps hs2 (K + 2) ∧ PS w2 own2 (3, i) q (madeOf x.A M).2.2 (1 + 100000 * (K : Int) + 100000)) := ⟨hW2, hq2⟩
    have hsz0 := hkd.size
    have HF2 : Hid (Free own w w2 ∧ ∀ b t, b < w.heap.size → t ≠ (0, 0) → own b = t → own2 b = t) := ⟨fun p u h0 hc => hfr2 p u (HF1.out.2 _ _ (cell_lt hc) (by simp) h0) (HF1.out.1 p u h0 hc), fun b t hb hne e => hown2 b t (by omega) hne (HF1.out.2 b t hb hne e)⟩
    subst he2
    clear hkn2 hW2 hq2 hon2 hown2 hfr2 s0 s1 s2 s3 s4 s5 s6 t1 t2
    go_wp2_with fail
    refine (H3.out _ _ HS2.out.1.low HR2.out HS1.out.1).mono ?_
    intro e w3 hh3
    have HH3 : Hid (MadeR w2 own2 (4, i) r x.A M e w3) := hh3
    have he3 := hh3.1
    rw [← HXY.out.1, ← HXY.out.2] at he3
    subst he3
    clear hh3
    go_wp2_with fail
    go_ret
    refine ⟨rfl, ?_⟩
    obtain ⟨hw2, hq2⟩ := HS2.out
    have hp2 := HP2.out
    obtain ⟨_, hr3, hon3⟩ := HH3.out
    rw [HPE.out.1] at hp2
    rw [HPE.out.2.1] at hq2
    rw [HPE.out.2.2] at hr3
    obtain ⟨own', hfin⟩ := WX.last hw2 HX.out (HA.out.made M) (by have := made_la x.A M; have := HLA0.out; omega) (by omega) hp2 hq2 hr3 hon3
    exact ⟨⟨own', _, hs2, by simp, hfin⟩, fun p u h0 hc => hon3.cell (HF2.out.1 p u h0 hc) (by rw [HF2.out.2 _ _ (cell_lt hc) (by simp) h0]; simp)⟩
  · have him := isMake_no2 (w := wd) (k := k) (by omega)
    by_cases h7 : k = 7
    · subst h7
      obtain ⟨hA, hla, hpp, hqq, hrr⟩ := HWD.out.prs i x trivial HX.out
      obtain ⟨ownd, hownd⟩ : ∃ ownd, ownd = newOwn own w (0, 3) := ⟨_, rfl⟩
      rw [← hownd] at hpp hqq hrr HWD
      have ob : ownd w.heap.size = (0, 3) := by rw [hownd]; exact newOwn_new (Nat.le_refl _)
      have HE0 : Hid (∀ b, b < w.heap.size → ownd b = own b) := fun b hb => by rw [hownd]; exact newOwn_old hb
      have oc : ownd (w.heap.size + 1) = (0, 3) := by rw [hownd]; exact newOwn_new (by omega)
      have hfit := HF.out
      have HA : Hid (AbsOk x.A) := hA
      obtain ⟨Y, hY⟩ : ∃ Y, Y = (relOf x.A a).1 := ⟨_, rfl⟩
      have e2 : (Y == Y) = true := by simp
      have H1 : Hid (∀ (w1 : World) (own1 : Own) (tg : Tag) (s : Nat), PS w1 own1 tg s x.A (1 + 100000 * (K : Int)) → Calls Tryz.prog 16 #[.pointer (some ⟨s, 0, none⟩), .int .i64 a] w1 fun e w' => e = .returned (.int .i64 Y) ∧ PS w' (newOwn own1 w1 tg) tg s (relOf x.A a).2 (1 + 100000 * (K : Int)) ∧ Only own1 tg w1 w') := fun w1 own1 tg s h => by
        rw [hY]
        exact ps_release hA h hfit.2.2.1
      have H3 : Hid (∀ (w1 : World) (own1 : Own) (tg : Tag) (s : Nat), RW w1 own1 tg s x.A → Calls Tryz.prog 17 #[.pointer (some ⟨s, 0, none⟩), .int .i64 a] w1 fun e w' => e = .returned (.int .i64 Y) ∧ RW w' (newOwn own1 w1 tg) tg s (relOf x.A a).2 ∧ Only own1 tg w1 w') := fun w1 own1 tg s h => by
        rw [hY]
        exact rs_release hA h a
      have HLA : Hid ((relOf x.A a).2.la ≤ ((K + 1 : Nat) : Int)) := by
        show _ ≤ _
        rw [rel_la]
        omega
      have HPP : Hid (PS wd ownd (2, i) p x.A (1 + 100000 * (K : Int))) := by
        show PS wd ownd (2, i) p x.A _
        rw [HPE.out.1]; exact hpp
      have HQQ : Hid (PS wd ownd (3, i) q x.A (1 + 100000 * (K : Int))) := by
        show PS wd ownd (3, i) q x.A _
        rw [HPE.out.2.1]; exact hqq
      have HRR : Hid (RW wd ownd (4, i) r x.A) := by
        show RW wd ownd (4, i) r x.A
        rw [HPE.out.2.2]; exact hrr
      clear hA hla hpp hqq hrr hfit hY hownd
      go_wp2_with fail
      refine him.mono ?_
      rintro e w' ⟨rfl, rfl⟩
      go_wp2_with fail
      refine (H1.out _ _ _ _ HPP.out).mono ?_
      rintro e w1 ⟨rfl, hp1, hon1⟩
      obtain ⟨own1, hown1⟩ : ∃ own1, own1 = newOwn ownd wd (2, i) := ⟨_, rfl⟩
      have s2 := hon1.cell o2 (by show ¬ (ownd w.heap.size = _); rw [ob]; simp)
      have t1 := hon1.cell p1 (by show ¬ (ownd (w.heap.size + 1) = _); rw [oc]; simp)
      have t2 := hon1.cell p2 (by show ¬ (ownd (w.heap.size + 1) = _); rw [oc]; simp)
      have ob1 : own1 w.heap.size = (0, 3) := by rw [hown1]; exact newOwn_stays (by omega) ob
      have oc1 : own1 (w.heap.size + 1) = (0, 3) := by rw [hown1]; exact newOwn_stays (by omega) oc
      have HQ1 : Hid (PS w1 own1 (3, i) q x.A (1 + 100000 * (K : Int))) := HQQ.out.frame hon1 (by simp) (fun b hb e => by rw [hown1]; exact newOwn_stays hb e)
      have HR1 : Hid (RW w1 own1 (4, i) r x.A) := HRR.out.frame HA.out hon1 (by simp) (fun b hb e => by rw [hown1]; exact newOwn_stays hb e)
      have HO1 : Hid (own1 = newOwn ownd wd (2, i)) := hown1
      have HP1 : Hid (PS w1 own1 (2, i) p (relOf x.A a).2 (1 + 100000 * (K : Int)) ∧ Only ownd (2, i) wd w1) := by rw [← hown1] at hp1; exact ⟨hp1, hon1⟩
      clear hp1 hon1 hown1
      go_wp2_with fail
      refine (H1.out _ _ _ _ HQ1.out).mono ?_
      rintro e w2 ⟨rfl, hq2, hon2⟩
      obtain ⟨own2, hown2⟩ : ∃ own2, own2 = newOwn own1 w1 (3, i) := ⟨_, rfl⟩
      have u2 := hon2.cell s2 (by show ¬ (own1 w.heap.size = _); rw [ob1]; simp)
      have v2 := hon2.cell t2 (by show ¬ (own1 (w.heap.size + 1) = _); rw [oc1]; simp)
      have HR2 : Hid (RW w2 own2 (4, i) r x.A) := HR1.out.frame HA.out hon2 (by simp) (fun b hb e => by rw [hown2]; exact newOwn_stays hb e)
      have HO2 : Hid (own2 = newOwn own1 w1 (3, i)) := hown2
      have HQ2 : Hid (PS w2 own2 (3, i) q (relOf x.A a).2 (1 + 100000 * (K : Int)) ∧ Only own1 (3, i) w1 w2) := by rw [← hown2] at hq2; exact ⟨hq2, hon2⟩
      clear hq2 hon2 hown2
      go_wp2_with fail
      refine (H3.out _ _ _ _ HR2.out).mono ?_
      rintro e w3 ⟨rfl, hr3, hon3⟩
      have HR3 : Hid (RW w3 (newOwn own2 w2 (4, i)) (4, i) r (relOf x.A a).2 ∧ Only own2 (4, i) w2 w3) := ⟨hr3, hon3⟩
      clear hr3 hon3
      go_wp2_with fail
      go_ret
      refine ⟨rfl, ?_⟩
      obtain ⟨a1, a2⟩ := HP1.out
      obtain ⟨b1, b2⟩ := HQ2.out
      obtain ⟨c1, c2⟩ := HR3.out
      rw [HPE.out.1] at a1
      rw [HPE.out.2.1] at b1
      rw [HPE.out.2.2] at c1
      obtain ⟨own', hfin⟩ := WX.three HWD.out HX.out HO1.out HO2.out (HA.out.rel a) HLA.out (by omega) a1 a2 b1 b2 c1 c2
      exact ⟨⟨own', _, hs, by simp, hfin.wider (by omega)⟩, Free.three hkd HE0.out HO1.out HO2.out a2 b2 c2⟩
    · have d7 : (k == 7) = false := by simpa using h7
      have d18 : (k == 18) = false := by simp; omega
      have d19 : (k == 19) = false := by simp; omega
      have hfit := HF.out
      have HAK : Hid (Calls Tryz.prog 19 #[.pointer (some ⟨W, 0, none⟩), .agg #[.pointer (some ⟨p, 0, none⟩), .pointer (some ⟨q, 0, none⟩), .pointer (some ⟨r, 0, none⟩)], .agg #[.int .i64 k, .int .i64 m, .int .i64 a, .int .i64 b, .int .i64 c, .slice la ln lc, .slice va vn vc]] wd fun e w' => e = .returned (.bool true) ∧ (∃ own' hs', WAt w0 w' own' W ps hs' (K + 1)) ∧ Free (newOwn own w (0, 3)) wd w') := by
        show Calls Tryz.prog 19 #[.pointer (some ⟨W, 0, none⟩), .agg #[.pointer (some ⟨p, 0, none⟩), .pointer (some ⟨q, 0, none⟩), .pointer (some ⟨r, 0, none⟩)], .agg #[.int .i64 k, .int .i64 m, .int .i64 a, .int .i64 b, .int .i64 c, .slice la ln lc, .slice va vn vc]] wd _
        have hpr := HWD.out.prs i x trivial HX.out
        have kept : ∀ (e : Ending) (w' : World), (e = .returned (.bool true) ∧ Keeps [] wd w') → e = .returned (.bool true) ∧ (∃ own' hs', WAt w0 w' own' W ps hs' (K + 1)) ∧ Free (newOwn own w (0, 3)) wd w' := fun e w' hh => ⟨hh.1, ⟨newOwn own w (0, 3), hs, (HWD.out.keeps hh.2 (fun b tg hb _ e => e)).wider (Nat.le_succ K)⟩, Free.keeps hh.2⟩
        rw [HPE.out.1, HPE.out.2.1, HPE.out.2.2]
        by_cases h8 : k = 8
        · subst h8; exact (asks8 hpr hfit.2.2.1 hfit.2.2.2.1).mono kept
        by_cases h9 : k = 9
        · subst h9
          refine (asks9 HWD.out (by omega) HX.out hfit.2.2.1 hvn HV0.out).mono ?_
          rintro e w' ⟨rfl, ⟨own', h, hh⟩, hfr⟩
          exact ⟨rfl, ⟨own', _, hh⟩, hfr⟩
        by_cases h10 : k = 10
        · subst h10; exact (asks10 hpr hfit.2.2.1 hfit.2.2.2.1).mono kept
        by_cases h11 : k = 11
        · subst h11; exact (asks11 hpr hfit.2.2.1 hfit.2.2.2.1).mono kept
        by_cases h15 : k = 15
        · subst h15
          refine (asks15 HWD.out (by omega) HX.out hfit.2.2.1).mono ?_
          rintro e w' ⟨rfl, ⟨own', h, hh⟩, hfr⟩
          exact ⟨rfl, ⟨own', _, hh⟩, hfr⟩
        by_cases h16 : k = 16
        · subst h16; exact (asks16 hpr hfit.2.2.1).mono kept
        exact (asks0 (by omega)).mono kept
      clear hfit h7 hmk
      go_wp2_with fail
      refine him.mono ?_
      rintro e w' ⟨rfl, rfl⟩
      go_wp2_with fail
      refine HAK.out.mono ?_
      rintro e w1 ⟨rfl, ⟨own', hs', hh⟩, hfr⟩
      have HH : Hid (WAt w0 w1 own' W ps hs' (K + 1)) := hh
      have HFR : Hid (Free own w w1) := fun p u h0 hc => hfr p u (newOwn_stays (cell_lt hc) h0) (hkd.cell hc (by simp))
      clear hh hfr
      go_wp2_with fail
      go_ret
      exact ⟨rfl, ⟨own', ps, hs', rfl, HH.out.wider (by omega)⟩, HFR.out⟩

end Go.Proofs.YtmgjegokkbghlaaGreat
