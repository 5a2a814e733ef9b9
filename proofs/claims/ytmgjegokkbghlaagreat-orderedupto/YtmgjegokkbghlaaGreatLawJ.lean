/- One call of the script: step. The whole script: step, plays. The script as it comes in. -/
import Derived.Test.YtmgjegokkbghlaaGreatLawA
import Derived.BigRegion
import Derived.ChangeArms
import Derived.ChangeSame
import Derived.SizedLaws
import Derived.OpenShut
namespace Go.Proofs.YtmgjegokkbghlaaGreat
open Go.RowKit Go.Maps Bdd
set_option linter.unusedVariables false
attribute [local go_sem ↓] Go.wp_at_zero Go.wp_at_succ

set_option maxRecDepth 100000 in
theorem isMake_yes {w : World} {k : Int} (h : 2 ≤ k ∧ k ≤ 6) : Calls Tryz.prog 13 #[.int .i64 k] w fun e w' => e = .returned (.bool true) ∧ w = w' := by
  obtain ⟨h1, h2⟩ := h
  go_enter Tryz.func13, Tryz.ntmps13
  go_wp2_with fail
  go_ret
  exact ⟨rfl, rfl⟩
set_option maxRecDepth 100000 in
theorem isMake_no {w : World} {k : Int} (h : k < 2 ∨ 6 < k) (h11 : k ≤ 11) : Calls Tryz.prog 13 #[.int .i64 k] w fun e w' => e = .returned (.bool false) ∧ w = w' := by
  by_cases h1 : k < 2
  · clear h
    go_enter Tryz.func13, Tryz.ntmps13
    go_wp2_with fail
    go_ret
    exact ⟨rfl, rfl⟩
  · have h2 : 6 < k := by omega
    have h3 : 2 ≤ k := by omega
    have d6 : decide (k ≤ 6) = false := by simp; omega
    clear h h1
    go_enter Tryz.func13, Tryz.ntmps13
    go_wp2_with fail
    go_ret
    exact ⟨rfl, rfl⟩

theorem tmod_in (m : Int) {n : Nat} (hn : 0 < n) : -(n : Int) < m.tmod n ∧ m.tmod n < (n : Int) := by
  by_cases h : 0 ≤ m
  · rw [Int.tmod_eq_emod_of_nonneg h]
    have h0 := Int.emod_nonneg m (b := (n : Int)) (by omega)
    have h1 := Int.emod_lt_of_pos m (b := (n : Int)) (by omega)
    omega
  · have e : m.tmod n = -((-m).tmod n) := by rw [Int.neg_tmod, Int.neg_neg]
    rw [e, Int.tmod_eq_emod_of_nonneg (by omega)]
    have h0 := Int.emod_nonneg (-m) (b := (n : Int)) (by omega)
    have h1 := Int.emod_lt_of_pos (-m) (b := (n : Int)) (by omega)
    omega
theorem pick_pair {m : Int} {n : Nat} (hn : 0 < n) (hn2 : n ≤ 4000000000000) : ∃ i : Nat, i < n ∧ (wrap64 (m.tmod n + n)).tmod n = (i : Int) := by
  obtain ⟨h1, h2⟩ := tmod_in m hn
  have e : wrap64 (m.tmod n + n) = m.tmod n + n := IntWalk.wrap64_in _ ⟨by omega, by omega⟩
  rw [e, Int.tmod_eq_emod_of_nonneg (by omega)]
  have h3 := Int.emod_nonneg (m.tmod n + n) (b := (n : Int)) (by omega)
  have h4 := Int.emod_lt_of_pos (m.tmod n + n) (b := (n : Int)) (by omega)
  exact ⟨((m.tmod n + n) % n).toNat, by omega, by omega⟩

/-- behind a call on all three of a pair -/
theorem WX.three {w0 wd w1 w2 w3 : World} {own own1 own2 : Own} {W K i : Nat} {ps : List Pr} {hs : List Nat} {x : Pr} {A' : Abs} {lb : Int} (hW : WAt w0 wd own W ps hs K) (hx : ps[i]? = some x)
    (e1 : own1 = newOwn own wd (2, i)) (e2 : own2 = newOwn own1 w1 (3, i)) (hA : AbsOk A') (hla : A'.la ≤ ((K + 1 : Nat) : Int)) (hlb : lb ≤ 1 + 100000 * ((K + 1 : Nat) : Int))
    (hp : PS w1 own1 (2, i) x.p A' lb) (op : Only own (2, i) wd w1) (hq : PS w2 own2 (3, i) x.q A' lb) (oq : Only own1 (3, i) w1 w2) (hr : RW w3 (newOwn own2 w2 (4, i)) (4, i) x.r A') (or : Only own2 (4, i) w2 w3) :
    ∃ own', WAt w0 w3 own' W (ps.set i ⟨x.p, x.q, x.r, A'⟩) hs (K + 1) := by
  have h0 : WX (fun j => j ≠ i) w0 wd own W ps hs K := hW.sub (fun _ _ => trivial)
  have h1 : WX (fun j => j ≠ i) w0 w1 own1 W ps hs K := h0.frame op (by simp) (by simp) (fun j hj => by simpa using hj) (fun j hj => by simp) (fun j hj => by simp) (fun j => by simp) (fun b tg hb _ e => by rw [e1]; exact newOwn_stays hb e) h0.low.size
  have h2 : WX (fun j => j ≠ i) w0 w2 own2 W ps hs K := h1.frame oq (by simp) (by simp) (fun j hj => by simp) (fun j hj => by simpa using hj) (fun j hj => by simp) (fun j => by simp) (fun b tg hb _ e => by rw [e2]; exact newOwn_stays hb e) h1.low.size
  have h3 : WX (fun j => j ≠ i) w0 w3 (newOwn own2 w2 (4, i)) W ps hs K := h2.frame or (by simp) (by simp) (fun j hj => by simp) (fun j hj => by simp) (fun j hj => by simpa using hj) (fun j => by simp) (fun b tg hb _ e => newOwn_stays hb e) h2.low.size
  have hp2 : PS w2 own2 (2, i) x.p A' lb := hp.frame oq (by simp) (fun b hb e => by rw [e2]; exact newOwn_stays hb e)
  have hp3 : PS w3 (newOwn own2 w2 (4, i)) (2, i) x.p A' lb := hp2.frame or (by simp) (fun b hb e => newOwn_stays hb e)
  have hq3 : PS w3 (newOwn own2 w2 (4, i)) (3, i) x.q A' lb := hq.frame or (by simp) (fun b hb e => newOwn_stays hb e)
  refine ⟨newOwn own2 w2 (4, i), h3.low, h3.mine, h3.ow, h3.fr, ?_, h3.c1, h3.c2, fun j y _ hy => ?_, h3.hds, by simp; exact Nat.le_succ_of_le h3.kp, Nat.le_succ_of_le h3.kh⟩
  · rw [flatP_set (x' := ⟨x.p, x.q, x.r, A'⟩) hx rfl, List.length_set]
    exact h3.c0
  · by_cases ej : j = i
    · subst ej
      have hlt : j < ps.length := by
        false_or_by_contra
        rename_i hc
        rw [List.getElem?_eq_none (by omega)] at hx
        cases hx
      rw [List.getElem?_set_self hlt] at hy
      cases hy
      exact ⟨hA, hla, hp3.wider hlb, hq3.wider hlb, hr⟩
    · rw [List.getElem?_set_ne (fun e => ej e.symm)] at hy
      exact (h3.prs j y ej hy).wider (Nat.le_succ K)

theorem Free.three {w wd w1 w2 w3 : World} {own ownd own1 own2 : Own} {i : Nat} (hk : Keeps [] w wd) (e0 : ∀ b, b < w.heap.size → ownd b = own b) (e1 : own1 = newOwn ownd wd (2, i)) (e2 : own2 = newOwn own1 w1 (3, i)) (o1 : Only ownd (2, i) wd w1) (o2 : Only own1 (3, i) w1 w2) (o3 : Only own2 (4, i) w2 w3) : Free own w w3 := by
  intro p u h0 hc
  have hl := cell_lt hc
  have hd : ownd p.block = (0, 3) := by rw [e0 _ hl]; exact h0
  have hsd := hk.size
  have hs1 := o1.size
  have h1 : own1 p.block = (0, 3) := by rw [e1]; exact newOwn_stays (by omega) hd
  have h2 : own2 p.block = (0, 3) := by rw [e2]; exact newOwn_stays (by omega) h1
  exact o3.cell (o2.cell (o1.cell (hk.cell hc (by simp)) (by rw [hd]; simp)) (by rw [h1]; simp)) (by rw [h2]; simp)

/-- behind a call, the rest is as it was -/
theorem made_la (A : Abs) (m : Int ⊕ Fun) : (madeOf A m).2.2.la ≤ A.la + 1 := by
  cases m with
  | inl e => simp only [madeOf]; omega
  | inr F =>
    simp only [madeOf, outcome]
    split
    · simp; omega
    · split
      · simp; omega
      · simp [Abs.add]
theorem rel_la (A : Abs) (f : Int) : (relOf A f).2.la = A.la := by
  unfold relOf
  split
  · rfl
  · rfl
theorem AbsOk.rel {A : Abs} (h : AbsOk A) (f : Int) : AbsOk (relOf A f).2 := by
  unfold relOf
  split
  · exact h.del f
  · exact h

set_option maxRecDepth 100000 in
set_option maxHeartbeats 4000000 in
theorem step_old {w0 w : World} {own : Own} {W K : Nat} {ps : List Pr} {hs : List Nat} (hW : WAt w0 w own W ps hs K) (hK : K < 4000000000000) (hps : 0 < ps.length) {k m a b c : Int} {l : Value} {va : Option Addr} {vn vc : Nat} {f : Nat → Bool} (hk1 : k ≠ 1) (hk11 : k ≤ 11) (hkf : Fits k) (hm : Fits m) (ha : Fits a) (hb : Fits b) (hc : Fits c) (hvn : vn ≤ 140737488351232) (hv0 : TruthsIn w0 va vn f) :
    Calls Tryz.prog 9 #[ptr W, opV k m a b c l (.slice va vn vc)] w fun e w' => e = .returned (.bool true) ∧ (∃ own' ps' hs', ps'.length = ps.length ∧ WAt w0 w' own' W ps' hs' (K + 1)) ∧ Free own w w' := by
  obtain ⟨pv, q1, q2, q3, q4⟩ := hW.c0
  obtain ⟨g, cap, rfl⟩ := row_slice q2 hps
  obtain ⟨i, hi, hidx⟩ := pick_pair (m := m) hps (by have := hW.kp; omega)
  obtain ⟨x, hx⟩ : ∃ x, ps[i]? = some x := ⟨_, List.getElem?_eq_getElem hi⟩
  obtain ⟨f0, f1, f2⟩ := flatP_get ps i x hx
  have r0 : w.cell? ⟨g, i * 3, none⟩ = some (.pointer (some ⟨x.p, 0, none⟩)) := by rw [World.ownsRow.cellAt q2 _ (by omega)]; exact f0
  have r1 : w.cell? ⟨g, i * 3 + 1, none⟩ = some (.pointer (some ⟨x.q, 0, none⟩)) := by rw [World.ownsRow.cellAt q2 _ (by omega)]; exact f1
  have r2 : w.cell? ⟨g, i * 3 + 2, none⟩ = some (.pointer (some ⟨x.r, 0, none⟩)) := by rw [World.ownsRow.cellAt q2 _ (by omega)]; exact f2
  have hgl : g < w.heap.size := cell_lt r0
  have hWl : W < w.heap.size := hW.lt
  obtain ⟨n, hn⟩ : ∃ n, n = ps.length := ⟨_, rfl⟩
  rw [← hn] at q1 hidx hi hps
  have hnK : (n : Int) ≤ 4000000000000 := by have := hW.kp; omega
  have hz : ((n : Int) == 0) = false := by simp; omega
  have hz2 : ¬ n = 0 := by omega
  have hi0 : (0 : Int) ≤ (i : Int) := by omega
  have hi1 : (i : Int) < (n : Int) := by omega
  have hne1 : (k == 1) = false := by simpa using hk1
  have HW : Hid (WAt w0 w own W ps hs K) := hW
  have HX : Hid (ps[i]? = some x) := hx
  have HN : Hid (n = ps.length) := hn
  have HV0 : Hid (TruthsIn w0 va vn f) := hv0
  have HF : Hid (Fits k ∧ Fits m ∧ Fits a ∧ Fits b ∧ Fits c) := ⟨hkf, hm, ha, hb, hc⟩
  have HK1 : Hid (k ≠ 1) := hk1
  obtain ⟨p, hp'⟩ : ∃ p, p = x.p := ⟨_, rfl⟩
  obtain ⟨q, hq'⟩ : ∃ q, q = x.q := ⟨_, rfl⟩
  obtain ⟨r, hr'⟩ : ∃ r, r = x.r := ⟨_, rfl⟩
  have HPE : Hid (p = x.p ∧ q = x.q ∧ r = x.r) := ⟨hp', hq', hr'⟩
  rw [← hp'] at r0
  rw [← hq'] at r1
  rw [← hr'] at r2
  clear q2 q3 q4 f0 f1 f2 hW hx hn hv0 hk1 hp' hq' hr'
  unfold Fits at hm ha hb hc hkf
  show Calls Tryz.prog 9 #[.pointer (some ⟨W, 0, none⟩), .agg #[.int .i64 k, .int .i64 m, .int .i64 a, .int .i64 b, .int .i64 c, l, .slice va vn vc]] w _
  go_enter Tryz.func9, Tryz.ntmps9
  go_wp2_with fail
  go_region
  obtain ⟨wd, hwd⟩ : ∃ wd, wd = ((w.alloc (.cells #[.int .i64 k, .int .i64 m, .int .i64 a, .int .i64 b, .int .i64 c, l, .slice va vn vc] 34)).alloc (.cells #[.pointer (some ⟨p, 0, none⟩), .pointer (some ⟨q, 0, none⟩), .pointer (some ⟨r, 0, none⟩)] 44)).drew := ⟨_, rfl⟩
  rw [← hwd]
  have hkd : Keeps [] w wd := by rw [hwd]; exact (((Keeps.refl _ _).alloc _).alloc _).drew
  have ho : ∀ j u, #[Value.int .i64 k, .int .i64 m, .int .i64 a, .int .i64 b, .int .i64 c, l, .slice va vn vc][j]? = some u → wd.cell? ⟨w.heap.size, j, none⟩ = some u := fun j u h => by
    rw [hwd]
    exact (((Keeps.refl [] _).alloc _).drew).cell (cell_new w _ _ rfl h) (by simp)
  have hpc : ∀ j u, #[Value.pointer (some ⟨p, 0, none⟩), .pointer (some ⟨q, 0, none⟩), .pointer (some ⟨r, 0, none⟩)][j]? = some u → wd.cell? ⟨w.heap.size + 1, j, none⟩ = some u := fun j u h => by
    rw [hwd]
    exact ((Keeps.refl [] _).drew).cell (cell_new _ _ _ (by simp) h) (by simp)
  have o0 := ho 0 _ rfl
  have o1 := ho 1 _ rfl
  have o2 := ho 2 _ rfl
  have o3 := ho 3 _ rfl
  have o4 := ho 4 _ rfl
  have o5 := ho 5 _ rfl
  have o6 := ho 6 _ rfl
  have p0 := hpc 0 _ rfl
  have p1 := hpc 1 _ rfl
  have p2 := hpc 2 _ rfl
  have hWd : WAt w0 wd (newOwn own w (0, 3)) W ps hs K := HW.out.keeps hkd (fun b tg hb _ e => newOwn_stays hb e)
  have HWD : Hid (WAt w0 wd (newOwn own w (0, 3)) W ps hs K) := hWd
  have hsz : w.heap.size + 1 < wd.heap.size := cell_lt p0
  clear hwd ho hpc hWd r0 r1 r2 q1 hidx HW
  by_cases hmk : 2 ≤ k ∧ k ≤ 6
  · have him := isMake_yes (w := wd) hmk
    obtain ⟨hA, hla, hpp, hqq, hrr⟩ := HWD.out.prs i x trivial HX.out
    obtain ⟨ownd, hownd⟩ : ∃ ownd, ownd = newOwn own w (0, 3) := ⟨_, rfl⟩
    rw [← hownd] at hpp hqq hrr HWD
    have ob : ownd w.heap.size = (0, 3) := by rw [hownd]; exact newOwn_new (Nat.le_refl _)
    have HE0 : Hid (∀ b, b < w.heap.size → ownd b = own b) := fun b hb => by rw [hownd]; exact newOwn_old hb
    have oc : ownd (w.heap.size + 1) = (0, 3) := by rw [hownd]; exact newOwn_new (by omega)
    obtain ⟨M, hM⟩ : ∃ M, M = mk x.A k a b c := ⟨_, rfl⟩
    have hfit := HF.out
    have HA : Hid (AbsOk x.A) := hA
    have H1 : Hid (Calls Tryz.prog 14 #[.pointer (some ⟨W, 0, none⟩), .pointer (some ⟨p, 0, none⟩), .agg #[.int .i64 k, .int .i64 m, .int .i64 a, .int .i64 b, .int .i64 c, l, .slice va vn vc]] wd (MadeP wd ownd (2, i) x.p x.A (1 + 100000 * (K : Int)) M)) := by
      show Calls Tryz.prog 14 #[.pointer (some ⟨W, 0, none⟩), .pointer (some ⟨p, 0, none⟩), .agg #[.int .i64 k, .int .i64 m, .int .i64 a, .int .i64 b, .int .i64 c, l, .slice va vn vc]] wd _
      rw [HPE.out.1, hM]
      exact makes_any hA hpp (by omega) (by omega) hmk hfit.2.2.1 hfit.2.2.2.1 hfit.2.2.2.2
    have H2 : Hid (∀ (w1 : World) (own1 : Own), PS w1 own1 (3, i) x.q x.A (1 + 100000 * (K : Int)) → Calls Tryz.prog 14 #[.pointer (some ⟨W, 0, none⟩), .pointer (some ⟨q, 0, none⟩), .agg #[.int .i64 k, .int .i64 m, .int .i64 a, .int .i64 b, .int .i64 c, l, .slice va vn vc]] w1 (MadeP w1 own1 (3, i) x.q x.A (1 + 100000 * (K : Int)) M)) := fun w1 own1 hq1 => by
      rw [HPE.out.2.1, hM]
      exact makes_any hA hq1 (by omega) (by omega) hmk hfit.2.2.1 hfit.2.2.2.1 hfit.2.2.2.2
    have H3 : Hid (∀ (w2 : World) (own2 : Own), RW w2 own2 (4, i) x.r x.A → Known1 x.A M → Calls Tryz.prog 15 #[.pointer (some ⟨r, 0, none⟩), .agg #[.int .i64 k, .int .i64 m, .int .i64 a, .int .i64 b, .int .i64 c, l, .slice va vn vc]] w2 (MadeR w2 own2 (4, i) x.r x.A M)) := fun w2 own2 hr2 hkn => by
      rw [HPE.out.2.2]
      rw [hM] at hkn ⊢
      exact made_any hA hr2 (by omega) hmk hfit.2.2.1 hkn
    obtain ⟨X, hX⟩ : ∃ X, X = (madeOf x.A M).1 := ⟨_, rfl⟩
    obtain ⟨Y, hY⟩ : ∃ Y, Y = (madeOf x.A M).2.1 := ⟨_, rfl⟩
    have HXY : Hid (X = (madeOf x.A M).1 ∧ Y = (madeOf x.A M).2.1) := ⟨hX, hY⟩
    have HLA : Hid ((madeOf x.A M).2.2.la ≤ ((K + 1 : Nat) : Int)) := by
      have := made_la x.A M
      show _ ≤ _
      omega
    have HQQ : Hid (PS wd ownd (3, i) x.q x.A (1 + 100000 * (K : Int))) := hqq
    have HRR : Hid (RW wd ownd (4, i) x.r x.A) := hrr
    have e1 : (X == X) = true := by simp
    have e2 : (Y == Y) = true := by simp
    clear hA hla hpp hqq hrr hM hfit hX hY hownd
    go_wp2_with fail
    refine him.mono ?_
    rintro e w' ⟨rfl, rfl⟩
    go_wp2_with fail
    refine H1.out.mono ?_
    intro e w1 hh1
    have HH1 : Hid (MadeP wd ownd (2, i) x.p x.A (1 + 100000 * (K : Int)) M e w1) := hh1
    have he1 := hh1.1
    rw [← HXY.out.1, ← HXY.out.2] at he1
    obtain ⟨own1, hown1⟩ : ∃ own1, own1 = newOwn ownd wd (2, i) := ⟨_, rfl⟩
    have s0 := hh1.2.2.2.cell o0 (by show ¬ (ownd w.heap.size = _); rw [ob]; simp)
    have s1 := hh1.2.2.2.cell o1 (by show ¬ (ownd w.heap.size = _); rw [ob]; simp)
    have s2 := hh1.2.2.2.cell o2 (by show ¬ (ownd w.heap.size = _); rw [ob]; simp)
    have s3 := hh1.2.2.2.cell o3 (by show ¬ (ownd w.heap.size = _); rw [ob]; simp)
    have s4 := hh1.2.2.2.cell o4 (by show ¬ (ownd w.heap.size = _); rw [ob]; simp)
    have s5 := hh1.2.2.2.cell o5 (by show ¬ (ownd w.heap.size = _); rw [ob]; simp)
    have s6 := hh1.2.2.2.cell o6 (by show ¬ (ownd w.heap.size = _); rw [ob]; simp)
    have t1 := hh1.2.2.2.cell p1 (by show ¬ (ownd (w.heap.size + 1) = _); rw [oc]; simp)
    have t2 := hh1.2.2.2.cell p2 (by show ¬ (ownd (w.heap.size + 1) = _); rw [oc]; simp)
    have ob1 : own1 w.heap.size = (0, 3) := by rw [hown1]; exact newOwn_stays (by omega) ob
    have oc1 : own1 (w.heap.size + 1) = (0, 3) := by rw [hown1]; exact newOwn_stays (by omega) oc
    have HQ1 : Hid (PS w1 own1 (3, i) x.q x.A (1 + 100000 * (K : Int))) := HQQ.out.frame hh1.2.2.2 (by simp) (fun b hb e => by rw [hown1]; exact newOwn_stays hb e)
    have HR1 : Hid (RW w1 own1 (4, i) x.r x.A) := HRR.out.frame HA.out hh1.2.2.2 (by simp) (fun b hb e => by rw [hown1]; exact newOwn_stays hb e)
    have HO1 : Hid (own1 = newOwn ownd wd (2, i)) := hown1
    subst he1
    clear hh1 hown1 o0 o1 o2 o3 o4 o5 o6 p0 p1 p2
    go_wp2_with fail
    refine (H2.out _ _ HQ1.out).mono ?_
    intro e w2 hh2
    have HH2 : Hid (MadeP w1 own1 (3, i) x.q x.A (1 + 100000 * (K : Int)) M e w2) := hh2
    have he2 := hh2.1
    rw [← HXY.out.1, ← HXY.out.2] at he2
    obtain ⟨own2, hown2⟩ : ∃ own2, own2 = newOwn own1 w1 (3, i) := ⟨_, rfl⟩
    have o0 := hh2.2.2.2.cell s0 (by show ¬ (own1 w.heap.size = _); rw [ob1]; simp)
    have o1 := hh2.2.2.2.cell s1 (by show ¬ (own1 w.heap.size = _); rw [ob1]; simp)
    have o2 := hh2.2.2.2.cell s2 (by show ¬ (own1 w.heap.size = _); rw [ob1]; simp)
    have o3 := hh2.2.2.2.cell s3 (by show ¬ (own1 w.heap.size = _); rw [ob1]; simp)
    have o4 := hh2.2.2.2.cell s4 (by show ¬ (own1 w.heap.size = _); rw [ob1]; simp)
    have o5 := hh2.2.2.2.cell s5 (by show ¬ (own1 w.heap.size = _); rw [ob1]; simp)
    have o6 := hh2.2.2.2.cell s6 (by show ¬ (own1 w.heap.size = _); rw [ob1]; simp)
    have p2 := hh2.2.2.2.cell t2 (by show ¬ (own1 (w.heap.size + 1) = _); rw [oc1]; simp)
    have HR2 : Hid (RW w2 own2 (4, i) x.r x.A) := HR1.out.frame HA.out hh2.2.2.2 (by simp) (fun b hb e => by rw [hown2]; exact newOwn_stays hb e)
    have HO2 : Hid (own2 = newOwn own1 w1 (3, i)) := hown2
    subst he2
    clear hh2 hown2 s0 s1 s2 s3 s4 s5 s6 t1 t2
    go_wp2_with fail
    refine (H3.out _ _ HR2.out HH1.out.2.1).mono ?_
    intro e w3 hh3
    have HH3 : Hid (MadeR w2 own2 (4, i) x.r x.A M e w3) := hh3
    have he3 := hh3.1
    rw [← HXY.out.1, ← HXY.out.2] at he3
    subst he3
    clear hh3
    go_wp2_with fail
    go_ret
    refine ⟨rfl, ?_⟩
    have hp1 := HH1.out.2.2.1
    rw [← HO1.out] at hp1
    have hq2 := HH2.out.2.2.1
    rw [← HO2.out] at hq2
    obtain ⟨own', hfin⟩ := WX.three HWD.out HX.out HO1.out HO2.out (HA.out.made M) HLA.out (by omega) hp1 HH1.out.2.2.2 hq2 HH2.out.2.2.2 HH3.out.2.1 HH3.out.2.2
    exact ⟨⟨own', _, hs, by simp, hfin⟩, Free.three hkd HE0.out HO1.out HO2.out HH1.out.2.2.2 HH2.out.2.2.2 HH3.out.2.2⟩
  · have him := isMake_no (w := wd) (k := k) (by omega) hk11
    by_cases h7 : k = 7
    · subst h7
      obtain ⟨hA, hla, hpp, hqq, hrr⟩ := HWD.out.prs i x trivial HX.out
      obtain ⟨ownd, hownd⟩ : ∃ ownd, ownd = newOwn own w (0, 3) := ⟨_, rfl⟩
      rw [← hownd] at hpp hqq hrr HWD
      have ob : ownd w.heap.size = (0, 3) := by rw [hownd]; exact newOwn_new (Nat.le_refl _)
      have HE0 : Hid (∀ b, b < w.heap.size → ownd b = own b) := fun b hb => by rw [hownd]; exact newOwn_old hb
      have oc : ownd (w.heap.size + 1) = (0, 3) := by rw [hownd]; exact newOwn_new (by omega)
      have hfit := HF.out
      have HA : Hid (AbsOk x.A) := hA
      obtain ⟨Y, hY⟩ : ∃ Y, Y = (relOf x.A a).1 := ⟨_, rfl⟩
      have e2 : (Y == Y) = true := by simp
      have H1 : Hid (∀ (w1 : World) (own1 : Own) (tg : Tag) (s : Nat), PS w1 own1 tg s x.A (1 + 100000 * (K : Int)) → Calls Tryz.prog 16 #[.pointer (some ⟨s, 0, none⟩), .int .i64 a] w1 fun e w' => e = .returned (.int .i64 Y) ∧ PS w' (newOwn own1 w1 tg) tg s (relOf x.A a).2 (1 + 100000 * (K : Int)) ∧ Only own1 tg w1 w') := fun w1 own1 tg s h => by
        rw [hY]
        exact ps_release hA h hfit.2.2.1
      have H3 : Hid (∀ (w1 : World) (own1 : Own) (tg : Tag) (s : Nat), RW w1 own1 tg s x.A → Calls Tryz.prog 17 #[.pointer (some ⟨s, 0, none⟩), .int .i64 a] w1 fun e w' => e = .returned (.int .i64 Y) ∧ RW w' (newOwn own1 w1 tg) tg s (relOf x.A a).2 ∧ Only own1 tg w1 w') := fun w1 own1 tg s h => by
        rw [hY]
        exact rs_release hA h a
      have HLA : Hid ((relOf x.A a).2.la ≤ ((K + 1 : Nat) : Int)) := by
        show _ ≤ _
        rw [rel_la]
        omega
      have HPP : Hid (PS wd ownd (2, i) p x.A (1 + 100000 * (K : Int))) := by
        show PS wd ownd (2, i) p x.A _
        rw [HPE.out.1]; exact hpp
      have HQQ : Hid (PS wd ownd (3, i) q x.A (1 + 100000 * (K : Int))) := by
        show PS wd ownd (3, i) q x.A _
        rw [HPE.out.2.1]; exact hqq
      have HRR : Hid (RW wd ownd (4, i) r x.A) := by
        show RW wd ownd (4, i) r x.A
        rw [HPE.out.2.2]; exact hrr
      clear hA hla hpp hqq hrr hfit hY hownd
      go_wp2_with fail
      refine him.mono ?_
      rintro e w' ⟨rfl, rfl⟩
      go_wp2_with fail
      refine (H1.out _ _ _ _ HPP.out).mono ?_
      rintro e w1 ⟨rfl, hp1, hon1⟩
      obtain ⟨own1, hown1⟩ : ∃ own1, own1 = newOwn ownd wd (2, i) := ⟨_, rfl⟩
      have s2 := hon1.cell o2 (by show ¬ (ownd w.heap.size = _); rw [ob]; simp)
      have t1 := hon1.cell p1 (by show ¬ (ownd (w.heap.size + 1) = _); rw [oc]; simp)
      have t2 := hon1.cell p2 (by show ¬ (ownd (w.heap.size + 1) = _); rw [oc]; simp)
      have ob1 : own1 w.heap.size = (0, 3) := by rw [hown1]; exact newOwn_stays (by omega) ob
      have oc1 : own1 (w.heap.size + 1) = (0, 3) := by rw [hown1]; exact newOwn_stays (by omega) oc
      have HQ1 : Hid (PS w1 own1 (3, i) q x.A (1 + 100000 * (K : Int))) := HQQ.out.frame hon1 (by simp) (fun b hb e => by rw [hown1]; exact newOwn_stays hb e)
      have HR1 : Hid (RW w1 own1 (4, i) r x.A) := HRR.out.frame HA.out hon1 (by simp) (fun b hb e => by rw [hown1]; exact newOwn_stays hb e)
      have HO1 : Hid (own1 = newOwn ownd wd (2, i)) := hown1
      have HP1 : Hid (PS w1 own1 (2, i) p (relOf x.A a).2 (1 + 100000 * (K : Int)) ∧ Only ownd (2, i) wd w1) := by rw [← hown1] at hp1; exact ⟨hp1, hon1⟩
      clear hp1 hon1 hown1
      go_wp2_with fail
      refine (H1.out _ _ _ _ HQ1.out).mono ?_
      rintro e w2 ⟨rfl, hq2, hon2⟩
      obtain ⟨own2, hown2⟩ : ∃ own2, own2 = newOwn own1 w1 (3, i) := ⟨_, rfl⟩
      have u2 := hon2.cell s2 (by show ¬ (own1 w.heap.size = _); rw [ob1]; simp)
      have v2 := hon2.cell t2 (by show ¬ (own1 (w.heap.size + 1) = _); rw [oc1]; simp)
      have HR2 : Hid (RW w2 own2 (4, i) r x.A) := HR1.out.frame HA.out hon2 (by simp) (fun b hb e => by rw [hown2]; exact newOwn_stays hb e)
      have HO2 : Hid (own2 = newOwn own1 w1 (3, i)) := hown2
      have HQ2 : Hid (PS w2 own2 (3, i) q (relOf x.A a).2 (1 + 100000 * (K : Int)) ∧ Only own1 (3, i) w1 w2) := by rw [← hown2] at hq2; exact ⟨hq2, hon2⟩
      clear hq2 hon2 hown2
      go_wp2_with fail
      refine (H3.out _ _ _ _ HR2.out).mono ?_
      rintro e w3 ⟨rfl, hr3, hon3⟩
      have HR3 : Hid (RW w3 (newOwn own2 w2 (4, i)) (4, i) r (relOf x.A a).2 ∧ Only own2 (4, i) w2 w3) := ⟨hr3, hon3⟩
      clear hr3 hon3
      go_wp2_with fail
      go_ret
      refine ⟨rfl, ?_⟩
      obtain ⟨a1, a2⟩ := HP1.out
      obtain ⟨b1, b2⟩ := HQ2.out
      obtain ⟨c1, c2⟩ := HR3.out
      rw [HPE.out.1] at a1
      rw [HPE.out.2.1] at b1
      rw [HPE.out.2.2] at c1
      obtain ⟨own', hfin⟩ := WX.three HWD.out HX.out HO1.out HO2.out (HA.out.rel a) HLA.out (by omega) a1 a2 b1 b2 c1 c2
      exact ⟨⟨own', _, hs, by simp, hfin⟩, Free.three hkd HE0.out HO1.out HO2.out a2 b2 c2⟩
    · have d7 : (k == 7) = false := by simpa using h7
      have d18 : (k == 18) = false := by simp; omega
      have d19 : (k == 19) = false := by simp; omega
      have hfit := HF.out
      have HAK : Hid (Calls Tryz.prog 19 #[.pointer (some ⟨W, 0, none⟩), .agg #[.pointer (some ⟨p, 0, none⟩), .pointer (some ⟨q, 0, none⟩), .pointer (some ⟨r, 0, none⟩)], .agg #[.int .i64 k, .int .i64 m, .int .i64 a, .int .i64 b, .int .i64 c, l, .slice va vn vc]] wd fun e w' => e = .returned (.bool true) ∧ (∃ own' hs', WAt w0 w' own' W ps hs' (K + 1)) ∧ Free (newOwn own w (0, 3)) wd w') := by
        show Calls Tryz.prog 19 #[.pointer (some ⟨W, 0, none⟩), .agg #[.pointer (some ⟨p, 0, none⟩), .pointer (some ⟨q, 0, none⟩), .pointer (some ⟨r, 0, none⟩)], .agg #[.int .i64 k, .int .i64 m, .int .i64 a, .int .i64 b, .int .i64 c, l, .slice va vn vc]] wd _
        have hpr := HWD.out.prs i x trivial HX.out
        have kept : ∀ (e : Ending) (w' : World), (e = .returned (.bool true) ∧ Keeps [] wd w') → e = .returned (.bool true) ∧ (∃ own' hs', WAt w0 w' own' W ps hs' (K + 1)) ∧ Free (newOwn own w (0, 3)) wd w' := fun e w' hh => ⟨hh.1, ⟨newOwn own w (0, 3), hs, (HWD.out.keeps hh.2 (fun b tg hb _ e => e)).wider (Nat.le_succ K)⟩, Free.keeps hh.2⟩
        rw [HPE.out.1, HPE.out.2.1, HPE.out.2.2]
        by_cases h8 : k = 8
        · subst h8; exact (asks8 hpr hfit.2.2.1 hfit.2.2.2.1).mono kept
        by_cases h9 : k = 9
        · subst h9
          refine (asks9 HWD.out (by omega) HX.out hfit.2.2.1 hvn HV0.out).mono ?_
          rintro e w' ⟨rfl, ⟨own', h, hh⟩, hfr⟩
          exact ⟨rfl, ⟨own', _, hh⟩, hfr⟩
        by_cases h10 : k = 10
        · subst h10; exact (asks10 hpr hfit.2.2.1 hfit.2.2.2.1).mono kept
        by_cases h11 : k = 11
        · subst h11; exact (asks11 hpr hfit.2.2.1 hfit.2.2.2.1).mono kept
        exact (asks0 (by omega)).mono kept
      clear hfit h7 hmk
      go_wp2_with fail
      refine him.mono ?_
      rintro e w' ⟨rfl, rfl⟩
      go_wp2_with fail
      refine HAK.out.mono ?_
      rintro e w1 ⟨rfl, ⟨own', hs', hh⟩, hfr⟩
      have HH : Hid (WAt w0 w1 own' W ps hs' (K + 1)) := hh
      have HFR : Hid (Free own w w1) := fun p u h0 hc => hfr p u (newOwn_stays (cell_lt hc) h0) (hkd.cell hc (by simp))
      clear hh hfr
      go_wp2_with fail
      go_ret
      exact ⟨rfl, ⟨own', ps, hs', rfl, HH.out⟩, HFR.out⟩

end Go.Proofs.YtmgjegokkbghlaaGreat

namespace Go.Proofs.YtmgjegokkbghlaaGreat
open Go.RowKit Go.Maps Bdd
set_option linter.unusedVariables false
attribute [local go_sem ↓] Go.wp_at_zero Go.wp_at_succ

set_option maxRecDepth 100000 in
set_option maxHeartbeats 1000000 in
theorem step_new {w0 w : World} {own : Own} {W K : Nat} {ps : List Pr} {hs : List Nat} (hW : WAt w0 w own W ps hs K) (hK : K < 4000000000000) {m a b c : Int} {l v : Value} :
    Calls Tryz.prog 9 #[ptr W, opV 1 m a b c l v] w fun e w' => e = .returned (.bool true) ∧ (∃ own' ps' hs', ps.length ≤ ps'.length ∧ WAt w0 w' own' W ps' hs' (K + 1)) ∧ Free own w w' := by
  obtain ⟨wb, hwb⟩ : ∃ wb, wb = w.alloc (.cells (opC 1 m a b c l v) 34) := ⟨_, rfl⟩
  have hkb : Keeps [] w wb := by rw [hwb]; exact (Keeps.refl _ _).alloc _
  have hWb : WAt w0 wb (newOwn own w (0, 3)) W ps hs K := hW.keeps hkb (fun b tg hb _ e => newOwn_stays hb e)
  have H : Hid (Calls Tryz.prog 8 #[.pointer (some ⟨W, 0, none⟩), .agg #[.int .i64 1, .int .i64 m, .int .i64 a, .int .i64 b, .int .i64 c, l, v]] wb fun e w' => e = .returned (.bool true) ∧ (∃ own' ps' hs', ps.length ≤ ps'.length ∧ WAt w0 w' own' W ps' hs' (K + 1)) ∧ Free own w w') := by
    show Calls Tryz.prog 8 #[ptr W, opV 1 m a b c l v] wb _
    by_cases hab : a < 1 ∨ 8 < a ∨ b < 0 ∨ 2000 < b
    · refine (begin_bad hWb hab).mono ?_
      rintro e w' ⟨rfl, hk⟩
      exact ⟨rfl, ⟨newOwn own w (0, 3), ps, hs, Nat.le_refl _, (hWb.keeps hk (fun b tg hb _ e => e)).wider (Nat.le_succ K)⟩, Free.keeps (hkb.trans hk)⟩
    · obtain ⟨n, rfl⟩ : ∃ n : Nat, a = (n : Int) := ⟨a.toNat, by omega⟩
      refine (begin_good hWb (by omega) (n := n) (by omega) (by omega) (by omega) (by omega)).mono ?_
      rintro e w' ⟨rfl, own', x, _, hh, hf⟩
      exact ⟨rfl, ⟨own', _, hs, by simp, hh⟩, fun p u h0 hc => hf p u (newOwn_stays (cell_lt hc) h0) (hkb.cell hc (by simp))⟩
  clear hW hWb hkb
  show Calls Tryz.prog 9 #[.pointer (some ⟨W, 0, none⟩), .agg #[.int .i64 1, .int .i64 m, .int .i64 a, .int .i64 b, .int .i64 c, l, v]] w _
  unfold opC at hwb
  go_enter Tryz.func9, Tryz.ntmps9
  go_wp2_with fail
  rw [← hwb]
  clear hwb
  refine H.out.mono ?_
  rintro e w1 ⟨rfl, hh⟩
  have HH : Hid ((∃ own' ps' hs', ps.length ≤ ps'.length ∧ WAt w0 w1 own' W ps' hs' (K + 1)) ∧ Free own w w1) := hh
  clear hh
  go_wp2_with fail
  go_ret
  exact ⟨rfl, HH.out⟩

theorem step_any {w0 w : World} {own : Own} {W K : Nat} {ps : List Pr} {hs : List Nat} (hW : WAt w0 w own W ps hs K) (hK : K < 4000000000000) (hps : 0 < ps.length) {k m a b c : Int} {l : Value} {va : Option Addr} {vn vc : Nat} {f : Nat → Bool} (hk11 : k ≤ 11) (hkf : Fits k) (hm : Fits m) (ha : Fits a) (hb : Fits b) (hc : Fits c) (hvn : vn ≤ 140737488351232) (hv0 : TruthsIn w0 va vn f) :
    Calls Tryz.prog 9 #[ptr W, opV k m a b c l (.slice va vn vc)] w fun e w' => e = .returned (.bool true) ∧ (∃ own' ps' hs', ps.length ≤ ps'.length ∧ WAt w0 w' own' W ps' hs' (K + 1)) ∧ Free own w w' := by
  by_cases h1 : k = 1
  · subst h1
    exact step_new hW hK
  · refine (step_old hW hK hps h1 hk11 hkf hm ha hb hc hvn hv0).mono ?_
    rintro e w' ⟨rfl, ⟨own', ps', hs', hl, hh⟩, hf⟩
    exact ⟨rfl, ⟨own', ps', hs', by omega, hh⟩, hf⟩

/-- a call of the script, in memory -/
def OpIn (w : World) (sb so : Nat) : Prop := ∃ (k m a b c : Int) (la : Option Addr) (ln lc : Nat) (va : Option Addr) (vn vc : Nat) (f : Nat → Bool), w.cell? ⟨sb, so, none⟩ = some (.int .i64 k) ∧ w.cell? ⟨sb, so + 1, none⟩ = some (.int .i64 m) ∧ w.cell? ⟨sb, so + 2, none⟩ = some (.int .i64 a) ∧ w.cell? ⟨sb, so + 3, none⟩ = some (.int .i64 b) ∧ w.cell? ⟨sb, so + 4, none⟩ = some (.int .i64 c) ∧ w.cell? ⟨sb, so + 5, none⟩ = some (.slice la ln lc) ∧ w.cell? ⟨sb, so + 6, none⟩ = some (.slice va vn vc) ∧ Fits k ∧ Fits m ∧ Fits a ∧ Fits b ∧ Fits c ∧ vn ≤ 140737488351232 ∧ TruthsIn w va vn f
/-- the script, in memory -/
def ScriptIn (w : World) (sa : Option Addr) (n : Nat) : Prop := n = 0 ∨ ∃ sb so, sa = some ⟨sb, so, none⟩ ∧ ∀ j, j < n → OpIn w sb (so + j * 7)

/-- the law's world at the start -/
theorem WX.start (w : World) : WAt w (w.alloc (.cells #[.slice none 0 0, .slice none 0 0, .bool false] 29)) (fun b => if b < w.heap.size then (0, 1) else (1, 0)) w.heap.size [] [] 0 := by
  refine ⟨(Keeps.refl _ _).alloc _, fun b hb => by simp [hb], by simp, fun j => World.frozen?_alloc_at _ _ _ _ rfl, ⟨.slice none 0 0, by simp, World.ownsRow_nil _ _ _ _, by simp [Value.ownBlock], fun g e => by cases e⟩, ⟨.slice none 0 0, by simp, World.ownsRow_nil _ _ _ _, by simp [Value.ownBlock], fun g e => by cases e⟩, by simp, fun i x _ hx => by simp at hx, fun j h hh => by simp at hh, by simp, by simp⟩

set_option maxRecDepth 100000 in
set_option maxHeartbeats 4000000 in
theorem plays_any {w : World} {sa : Option Addr} {n cap : Nat} {lo hi : Int} (hn : n ≤ 1600000000000) (hS : ScriptIn w sa n) (hlo : Fits lo) (hhi : Fits hi) :
    Calls Tryz.prog 7 #[.slice sa n cap, .int .i64 lo, .int .i64 hi, .int .i64 11] w fun e w' => e = .returned (.bool true) ∧ Keeps [] w w' := by
  obtain ⟨W, hW⟩ : ∃ W, W = w.heap.size := ⟨_, rfl⟩
  obtain ⟨wa, hwa⟩ : ∃ wa, wa = w.alloc (.cells #[.slice none 0 0, .slice none 0 0, .bool false] 29) := ⟨_, rfl⟩
  obtain ⟨owna, hst⟩ : ∃ owna, WAt w wa owna W [] [] 0 := ⟨_, by rw [hW, hwa]; exact WX.start w⟩
  have f0 : Fits 0 := by unfold Fits; omega
  have f1 : Fits 1 := by unfold Fits; omega
  have f3 : Fits 3 := by unfold Fits; omega
  have hnil : TruthsIn w none 0 (fun _ => false) := Or.inl rfl
  have H1 : Hid (Calls Tryz.prog 8 #[.pointer (some ⟨W, 0, none⟩), .agg #[.int .i64 0, .int .i64 0, .int .i64 3, .int .i64 50, .int .i64 0, .slice none 0 0, .slice none 0 0]] wa fun e w' => e = .returned (.bool true) ∧ ∃ own' ps', ps'.length = 1 ∧ WAt w w' own' W ps' [] 1) := by
    refine (begin_good hst (by omega) (n := 3) (by omega) (by omega) (by omega) (by omega)).mono ?_
    rintro e w' ⟨rfl, own', x, _, hh, _⟩
    exact ⟨rfl, own', _, by simp, hh⟩
  have H2 : Hid (∀ (wx : World) (ownx : Own) (ps : List Pr) (hs : List Nat) (K : Nat) (a : Int), ps.length = 1 → K ≤ 2 → Fits a → WAt w wx ownx W ps hs K → Calls Tryz.prog 9 #[.pointer (some ⟨W, 0, none⟩), .agg #[.int .i64 3, .int .i64 0, .int .i64 a, .int .i64 0, .int .i64 0, .slice none 0 0, .slice none 0 0]] wx fun e w' => e = .returned (.bool true) ∧ ∃ own' ps' hs', ps'.length = 1 ∧ WAt w w' own' W ps' hs' (K + 1)) := by
    intro wx ownx ps hs K a hl hK hfa hWx
    refine (step_old hWx (by omega) (by omega) (k := 3) (m := 0) (a := a) (b := 0) (c := 0) (l := .slice none 0 0) (va := none) (vn := 0) (vc := 0) (by omega) (by omega) f3 f0 hfa f0 f0 (by omega) hnil).mono ?_
    rintro e w' ⟨rfl, ⟨own', ps', hs', hl', hh⟩, _⟩
    exact ⟨rfl, own', ps', hs', by omega, hh⟩
  have H3 : Hid (∀ (wx : World) (ownx : Own) (ps : List Pr) (hs : List Nat) (K : Nat), WAt w wx ownx W ps hs K → Calls Tryz.prog 8 #[.pointer (some ⟨W, 0, none⟩), .agg #[.int .i64 0, .int .i64 0, .int .i64 0, .int .i64 50, .int .i64 0, .slice none 0 0, .slice none 0 0]] wx fun e w' => e = .returned (.bool true) ∧ WAt w w' ownx W ps hs K) := by
    intro wx ownx ps hs K hWx
    refine (begin_bad hWx (Or.inl (by omega))).mono ?_
    rintro e w' ⟨rfl, hk⟩
    exact ⟨rfl, hWx.keeps hk (fun b tg hb _ e => e)⟩
  have len1 : ∀ (wx : World) (ownx : Own) (ps : List Pr) (hs : List Nat) (K : Nat), ps.length = 1 → WAt w wx ownx W ps hs K → ∃ g cap, wx.cell? ⟨W, 0, none⟩ = some (.slice (some ⟨g, 0, none⟩) 1 cap) := fun wx ownx ps hs K hl hWx => by
    obtain ⟨pv, q1, q2, _⟩ := hWx.c0
    rw [hl] at q2
    obtain ⟨g, cap, rfl⟩ := row_slice q2 (by omega)
    exact ⟨g, cap, q1⟩
  have HS : Hid (ScriptIn w sa n) := hS
  have HL1 : Hid (∀ (wx : World) (ownx : Own) (ps : List Pr) (hs : List Nat) (K : Nat), ps.length = 1 → WAt w wx ownx W ps hs K → ∃ g cap, wx.cell? ⟨W, 0, none⟩ = some (.slice (some ⟨g, 0, none⟩) 1 cap)) := len1
  have hn' : (n : Int) ≤ 1600000000000 := by omega
  unfold Fits at hlo hhi
  clear hst hS hnil len1
  go_enter Tryz.func7, Tryz.ntmps7
  go_wp2_with fail
  rw [← hwa, ← hW]
  clear hwa hW
  refine H1.out.mono ?_
  rintro e w1 ⟨rfl, own1, ps1, hl1, hW1⟩
  obtain ⟨g1, cap1, x1⟩ := HL1.out _ _ _ _ _ hl1 hW1
  have HW1 : Hid (ps1.length = 1 ∧ WAt w w1 own1 W ps1 [] 1) := ⟨hl1, hW1⟩
  clear hl1 hW1
  go_wp2_with fail
  refine (H2.out w1 own1 ps1 [] 1 0 HW1.out.1 (by omega) f0 HW1.out.2).mono ?_
  rintro e w2 ⟨rfl, own2, ps2, hs2, hl2, hW2⟩
  have HW2 : Hid (ps2.length = 1 ∧ WAt w w2 own2 W ps2 hs2 2) := ⟨hl2, hW2⟩
  clear hl2 hW2 x1
  go_wp2_with fail
  refine (H2.out w2 own2 ps2 hs2 2 1 HW2.out.1 (by omega) f1 HW2.out.2).mono ?_
  rintro e w3 ⟨rfl, own3, ps3, hs3, hl3, hW3⟩
  have HW3 : Hid (ps3.length = 1 ∧ WAt w w3 own3 W ps3 hs3 3) := ⟨hl3, hW3⟩
  clear hl3 hW3
  go_wp2_with fail
  refine (H3.out w3 own3 ps3 hs3 3 HW3.out.2).mono ?_
  rintro e w4 ⟨rfl, hW4⟩
  obtain ⟨g4, cap4, x4⟩ := HL1.out _ _ _ _ _ HW3.out.1 hW4
  have HW4 : Hid (WAt w w4 own3 W ps3 hs3 3) := hW4
  clear hW4
  go_wp2_with fail
  clear x4
  go_loopw [10, 14] (fun ok x wr => ∃ (j : Nat) (b : Bool) (own : Own) (ps : List Pr) (hs : List Nat), j ≤ n ∧ ok = .bool b ∧ x = .int .i64 j ∧ 0 < ps.length ∧ WAt w wr own W ps hs (3 + j)) (fun _ x _ => n - (intOf x).toNat)
  case atStart => exact ⟨0, true, own3, ps3, hs3, by omega, rfl, rfl, by rw [HW3.out.1]; omega, HW4.out⟩
  case round =>
    clear HW1 HW2 HW3 HW4 H1 H2 H3 HL1
    obtain ⟨j, b, own, ps, hs, hj, rfl, rfl, hps, hWr⟩ := hrel
    have HWR : Hid (WAt w wr own W ps hs (3 + j)) := hWr
    clear hWr
    by_cases hlt : j < n
    · have hj0 : (0 : Int) ≤ (j : Int) := by omega
      have hj1 : (j : Int) < (n : Int) := by omega
      obtain ⟨sb, so, ea, hops⟩ : ∃ sb so, sa = some ⟨sb, so, none⟩ ∧ ∀ j, j < n → OpIn w sb (so + j * 7) := by
        rcases HS.out with h | h
        · omega
        · exact h
      subst ea
      obtain ⟨k, m, a, bb, c, la, ln, lc, va, vn, vc, f, c0, c1, c2, c3, c4, c5, c6, fk, fm, fa, fb, fc, hvn, htr⟩ := hops j hlt
      have low := HWR.out.low
      have d0 := low.cell c0 (by simp)
      have d1 := low.cell c1 (by simp)
      have d2 := low.cell c2 (by simp)
      have d3 := low.cell c3 (by simp)
      have d4 := low.cell c4 (by simp)
      have d5 := low.cell c5 (by simp)
      have d6 := low.cell c6 (by simp)
      have hsb : sb < wr.heap.size := cell_lt d0
      have HTR : Hid (TruthsIn w va vn f) := htr
      have HFK : Hid (Fits k ∧ Fits m ∧ Fits a ∧ Fits bb ∧ Fits c) := ⟨fk, fm, fa, fb, fc⟩
      clear hops c0 c1 c2 c3 c4 c5 c6 htr low
      unfold Fits at fk fm fa fb fc
      by_cases hkm : 11 < k
      · go_wp2_with fail
        go_roundw
        case rel => exact ⟨j + 1, b, own, ps, hs, by omega, rfl, by go_num, hps, (HWR.out.keeps ((Keeps.refl _ _).alloc _) (fun b tg hb _ e => e)).wider (by omega)⟩
        case measure => simp [intOf]; omega
      · have hk11 : k ≤ 11 := by omega
        obtain ⟨wb, hwb⟩ : ∃ wb, wb = wr.alloc (.cells #[.int .i64 k, .int .i64 m, .int .i64 a, .int .i64 bb, .int .i64 c, .slice la ln lc, .slice va vn vc] 34) := ⟨_, rfl⟩
        have hkb : Keeps [] wr wb := by rw [hwb]; exact (Keeps.refl _ _).alloc _
        have hb0 : wb.cell? ⟨wr.heap.size, 0, none⟩ = some (.int .i64 k) := by rw [hwb]; simp
        have hst := step_any (HWR.out.keeps hkb (own' := newOwn own wr (0, 3)) (fun b tg hb _ e => newOwn_stays hb e)) (by omega) hps (l := .slice la ln lc) (vc := vc) hk11 HFK.out.1 HFK.out.2.1 HFK.out.2.2.1 HFK.out.2.2.2.1 HFK.out.2.2.2.2 hvn HTR.out
        have HST : Hid (Calls Tryz.prog 9 #[.pointer (some ⟨W, 0, none⟩), .agg #[.int .i64 k, .int .i64 m, .int .i64 a, .int .i64 bb, .int .i64 c, .slice la ln lc, .slice va vn vc]] wb fun e w' => e = .returned (.bool true) ∧ (∃ own' ps' hs', ps.length ≤ ps'.length ∧ WAt w w' own' W ps' hs' (3 + j + 1)) ∧ Free (newOwn own wr (0, 3)) wb w') := hst
        clear hst
        go_wp2_with fail
        rw [← hwb]
        clear hwb
        refine HST.out.mono ?_
        rintro e w1 ⟨rfl, ⟨own', ps', hs', hl, hh⟩, hfr⟩
        have e0 : w1.cell? ⟨wr.heap.size, 0, none⟩ = some (.int .i64 k) := hfr _ _ (newOwn_new (Nat.le_refl _)) hb0
        have HH : Hid (WAt w w1 own' W ps' hs' (3 + j + 1)) := hh
        have HLK : Hid (Calls Tryz.prog 10 #[.pointer (some ⟨W, 0, none⟩)] w1 fun e w' => e = .returned (.bool true) ∧ Keeps [] w1 w') := looks_any hh (by omega)
        clear hh hfr
        by_cases hk1 : k = 1
        · have d1 : (k == 1) = true := by simp [hk1]
          clear hk1
          go_wp2_with fail
          refine HLK.out.mono ?_
          rintro e w2 ⟨rfl, hk2⟩
          go_wp2_with fail
          go_roundw
          case rel => exact ⟨j + 1, true, own', ps', hs', by omega, rfl, by go_num, by omega, (HH.out.keeps hk2 (fun b tg hb _ e => e)).wider (by omega)⟩
          case measure => simp [intOf]; omega
        · have d1 : (k == 1) = false := by simpa using hk1
          clear hk1
          by_cases hlo2 : lo ≤ k
          · have dlo : decide (lo ≤ k) = true := by simpa using hlo2
            go_wp2_with fail
            refine HLK.out.mono ?_
            rintro e w2 ⟨rfl, hk2⟩
            go_wp2_with fail
            go_roundw
            case rel => exact ⟨j + 1, true, own', ps', hs', by omega, rfl, by go_num, by omega, (HH.out.keeps hk2 (fun b tg hb _ e => e)).wider (by omega)⟩
            case measure => simp [intOf]; omega
          · have dlo : decide (lo ≤ k) = false := by simpa using hlo2
            clear hlo2
            go_wp2_with fail
            refine HLK.out.mono ?_
            rintro e w2 ⟨rfl, hk2⟩
            go_wp2_with fail
            go_roundw
            case rel => exact ⟨j + 1, true, own', ps', hs', by omega, rfl, by go_num, by omega, (HH.out.keeps hk2 (fun b tg hb _ e => e)).wider (by omega)⟩
            case measure => simp [intOf]; omega
    · have hj1 : (n : Int) ≤ (j : Int) := by omega
      go_wp2_with fail
      go_ret
      exact ⟨rfl, HWR.out.low⟩

end Go.Proofs.YtmgjegokkbghlaaGreat

namespace Go.Proofs.YtmgjegokkbghlaaGreat
open Go.RowKit Go.Maps Bdd
set_option linter.unusedVariables false

section
variable {H : Type} {enc : TypeId × Value → H} {W : World}

theorem cellsInt : Tryz.prog.cellsOf 3 = 1 := by kernel_rfl
theorem cellsBool : Tryz.prog.cellsOf 4 = 1 := by kernel_rfl
theorem cellsInts : Tryz.prog.cellsOf 31 = 1 := by kernel_rfl
theorem cellsBools : Tryz.prog.cellsOf 32 = 1 := by kernel_rfl
theorem cellsOp : Tryz.prog.cellsOf 34 = 7 := by kernel_rfl
theorem bytesOp : Tryz.prog.bytesOf 34 = 88 := by kernel_rfl
theorem bytesBool : Tryz.prog.bytesOf 4 = 1 := by kernel_rfl

theorem add_none (a : Addr) : a.add 0 = a := by simp [Addr.add]
theorem at_plain {w : World} {a : Addr} {v : Value} (h : w.cell? (a.add 0) = some v) : ∃ b off, a = ⟨b, off, none⟩ := by
  rw [add_none] at h
  obtain ⟨b, off, spot⟩ := a
  have hspot : spot = none := by simpa using World.cell?_spot h
  subst hspot
  exact ⟨b, off, rfl⟩

/-- a list of truth values, as it comes in -/
theorem open_truths {fuel : Nat} {c : Value} {x : DataW H × List MemPlace} (h : DataW.trod enc Tryz.prog W 0 (fun _ => true) true fuel 32 [c] = some x) (hw : ∀ n ∈ x.1.weights Tryz.prog 32, n ≤ reachBytes) :
    ∃ va vn vc f, c = .slice va vn vc ∧ vn ≤ 140737488351232 ∧ TruthsIn W va vn f := by
  rcases DataW.trod_slice Tryz.underlying32 h with ⟨hcs, hx⟩ | ⟨ad, len, cap, elems, rest, n, _, hcs, hx, hb, hlc, hcm, hel, hcells, hsp, _⟩
  · simp at hcs
    exact ⟨none, 0, 0, fun _ => false, hcs, by omega, Or.inl rfl⟩
  · simp at hcs
    have hsz : (elems.length + rest.length) * 1 ≤ reachBytes := by
      refine hw _ ?_
      rw [hx]
      simp only [DataW.weights, Tryz.underlying32, bytesBool, List.length_map]
      exact List.mem_cons_self ..
    have hrb : reachBytes = 140737488351232 := by decide
    have hbool : ∀ i, i < len → ∃ b, W.cell? (ad.add i) = some (.bool b) := by
      intro i hi
      have hc := hcells i hi
      rw [List.getElem?_eq_getElem (by omega), cellsBool, Nat.mul_one] at hc
      obtain ⟨cs, h1, h2⟩ := Option.bind_eq_some_iff.1 hc
      obtain ⟨_, hl, hcell⟩ := World.cells?_some h1
      obtain ⟨b, hcs', _⟩ := DataW.trod_bool Tryz.underlying4 h2
      have h3 := hcell 0 (by omega)
      rw [hcs'] at h3
      refine ⟨b, ?_⟩
      rw [add_none] at h3
      simpa using h3
    by_cases h0 : len = 0
    · exact ⟨some ad, len, cap, fun _ => false, hcs, by omega, Or.inl h0⟩
    · obtain ⟨b0, hb0⟩ := hbool 0 (by omega)
      obtain ⟨b, off, rfl⟩ := at_plain hb0
      refine ⟨some ⟨b, off, none⟩, len, cap, fun i => if hi : i < len then (hbool i hi).choose else false, hcs, by omega, Or.inr ⟨b, off, rfl, fun i hi => ?_⟩⟩
      simp only [hi, dif_pos]
      rw [← Addr.add_mid]
      exact (hbool i hi).choose_spec

theorem fitsOf {x : Int} (h : (Lit.int .i64 x).wf = true) : Fits x := by
  have := bounds_i64 h
  unfold Fits; omega

theorem weights_all {P : Program} {e : TypeId} : ∀ {l : List (DataW H)} {d : DataW H}, d ∈ l → ∀ n ∈ d.weights P e, n ∈ DataW.weightsAll P e l
  | y :: r, d, hd, n, hn => by
    simp only [DataW.weightsAll, List.mem_append]
    rcases List.mem_cons.1 hd with rfl | hd
    · exact Or.inl hn
    · exact Or.inr (weights_all hd n hn)

/-- THE SCRIPT, AS IT COMES IN -/
theorem open_ops {a : Option Addr} {len cap fuel : Nat} {x : DataW H × List MemPlace} (h : DataW.trod enc Tryz.prog W 0 (fun _ => true) true fuel 22 [.slice a len cap] = some x) (hw : ∀ n ∈ x.1.weights Tryz.prog 22, n ≤ reachBytes) : ScriptIn W a len ∧ len ≤ 1600000000000 := by
  rcases DataW.trod_slice Tryz.underlying22 h with ⟨hcs, hx⟩ | ⟨ad, len', cap', elems, rest, n, _, hcs, hx, hb, hlc, hcm, hel, hcells, hsp, _⟩
  · simp at hcs
    exact ⟨Or.inl hcs.2.1, by omega⟩
  · simp at hcs
    obtain ⟨rfl, rfl, rfl⟩ := hcs
    have hrb : reachBytes = 140737488351232 := by decide
    have hsz : (elems.length + rest.length) * 88 ≤ reachBytes := by
      refine hw _ ?_
      rw [hx]
      simp only [DataW.weights, Tryz.underlying22, bytesOp, List.length_map]
      exact List.mem_cons_self ..
    refine ⟨?_, by omega⟩
    by_cases h0 : len = 0
    · exact Or.inl h0
    have key : ∀ j, j < len → ∃ cs, W.cells? 0 (ad.add (j * 7)) 7 = some cs ∧ ∃ e, elems[j]? = some e ∧ DataW.trod enc Tryz.prog W 0 (fun _ => true) true n 34 cs = some e := by
      intro j hj
      have hc := hcells j hj
      rw [cellsOp] at hc
      rw [List.getElem?_eq_getElem (by omega)] at hc
      obtain ⟨cs, h1, h2⟩ := Option.bind_eq_some_iff.1 hc
      exact ⟨cs, h1, _, List.getElem?_eq_getElem (by omega), h2⟩
    obtain ⟨cs0, hcs0, _⟩ := key 0 (by omega)
    obtain ⟨_, hl0, hcell0⟩ := World.cells?_some hcs0
    have hc00 := hcell0 0 (by omega)
    rw [List.getElem?_eq_getElem (by omega), Nat.zero_mul] at hc00
    rw [add_none] at hc00
    obtain ⟨sb, so, rfl⟩ := at_plain hc00
    refine Or.inr ⟨sb, so, rfl, fun j hj => ?_⟩
    obtain ⟨cs, hcs, e, he, htr⟩ := key j hj
    obtain ⟨_, hl, hcell⟩ := World.cells?_some hcs
    obtain ⟨xs, m, _, hxe, hlen, hxl, hf⟩ := DataW.trod_struct Tryz.underlying34 htr
    have hxl7 : xs.length = 7 := hxl
    have hin : e.1 ∈ elems.map (·.1) := List.mem_map.2 ⟨e, List.mem_of_getElem? he, rfl⟩
    have hwe : ∀ n ∈ e.1.weights Tryz.prog 34, n ≤ reachBytes := fun n hn => by
      refine hw n ?_
      rw [hx]
      simp only [DataW.weights, Tryz.underlying22]
      exact List.mem_cons_of_mem _ (List.mem_append_left _ (weights_all hin n hn))
    have hcj : ∀ i, i < 7 → W.cell? ⟨sb, so + j * 7 + i, none⟩ = cs[i]? := fun i hi => by
      have := hcell i hi
      rw [Addr.add_mid, Addr.add_mid] at this
      exact this
    have hint : ∀ i, i < 5 → ∃ z, cs[i]? = some (.int .i64 z) ∧ Fits z := by
      intro i hi
      have hfi : ∃ fd : Field, fd.type = 3 ∧ fd.offset = i ∧ DataW.trod enc Tryz.prog W 0 (fun _ => true) true m fd.type ((cs.drop fd.offset).take (Tryz.prog.cellsOf fd.type)) = xs[i]? := by
        match i, hi with
        | 0, _ => exact ⟨_, rfl, rfl, hf 0 _ rfl⟩
        | 1, _ => exact ⟨_, rfl, rfl, hf 1 _ rfl⟩
        | 2, _ => exact ⟨_, rfl, rfl, hf 2 _ rfl⟩
        | 3, _ => exact ⟨_, rfl, rfl, hf 3 _ rfl⟩
        | 4, _ => exact ⟨_, rfl, rfl, hf 4 _ rfl⟩
      obtain ⟨fd, t3, of, ht⟩ := hfi
      rw [t3, of, cellsInt, List.getElem?_eq_getElem (show i < xs.length by omega)] at ht
      obtain ⟨z, hz, _, hwf⟩ := DataW.trod_int Tryz.underlying3 ht
      refine ⟨z, ?_, fitsOf hwf⟩
      have : ((cs.drop i).take 1)[0]? = some (.int .i64 z) := by rw [hz]; rfl
      simpa using this
    have h5 : DataW.trod enc Tryz.prog W 0 (fun _ => true) true m 31 ((cs.drop 5).take (Tryz.prog.cellsOf 31)) = xs[5]? := hf 5 _ rfl
    rw [List.getElem?_eq_getElem (show 5 < xs.length by omega), cellsInts] at h5
    have h6 : DataW.trod enc Tryz.prog W 0 (fun _ => true) true m 32 ((cs.drop 6).take (Tryz.prog.cellsOf 32)) = xs[6]? := hf 6 _ rfl
    rw [List.getElem?_eq_getElem (show 6 < xs.length by omega), cellsBools] at h6
    obtain ⟨k, k1, k2⟩ := hint 0 (by omega)
    obtain ⟨mm, m1, m2⟩ := hint 1 (by omega)
    obtain ⟨aa, a1, a2⟩ := hint 2 (by omega)
    obtain ⟨bb, b1, b2⟩ := hint 3 (by omega)
    obtain ⟨cc, c1, c2⟩ := hint 4 (by omega)
    have hlist : ∀ i (hi : i < cs.length), (cs.drop i).take 1 = [cs[i]] := fun i hi => by
      rw [List.drop_eq_getElem_cons hi]
      rfl
    rw [hlist 5 (by omega)] at h5
    rw [hlist 6 (by omega)] at h6
    obtain ⟨la, ln, lc, hL⟩ : ∃ la ln lc, cs[5]'(by omega) = .slice la ln lc := by
      rcases DataW.trod_slice Tryz.underlying31 h5 with ⟨hcs, _⟩ | ⟨ad, len, cap, _, _, _, _, hcs, _⟩
      · simp at hcs; exact ⟨_, _, _, hcs⟩
      · simp at hcs; exact ⟨_, _, _, hcs⟩
    obtain ⟨va, vn, vc, f, hV, hvn, hT⟩ := open_truths h6 (fun n hn => hwe n (by
      rw [hxe]
      simp only [DataW.weights, Tryz.underlying34]
      exact DataW.weights_mem_each (j := 6) (t := 32) rfl (by simp [hxl7]) n hn))
    have g5 : cs[5]? = some (.slice la ln lc) := by rw [List.getElem?_eq_getElem (by omega), hL]
    have g6 : cs[6]? = some (.slice va vn vc) := by rw [List.getElem?_eq_getElem (by omega), hV]
    exact ⟨k, mm, aa, bb, cc, la, ln, lc, va, vn, vc, f, (hcj 0 (by omega)).trans k1, (hcj 1 (by omega)).trans m1, (hcj 2 (by omega)).trans a1, (hcj 3 (by omega)).trans b1, (hcj 4 (by omega)).trans c1, (hcj 5 (by omega)).trans g5, (hcj 6 (by omega)).trans g6, k2, m2, a2, b2, c2, hvn, hT⟩
end

end Go.Proofs.YtmgjegokkbghlaaGreat
