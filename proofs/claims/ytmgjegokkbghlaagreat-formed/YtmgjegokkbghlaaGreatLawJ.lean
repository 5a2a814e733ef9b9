/- One call of the script: step. -/
import Derived.Test.YtmgjegokkbghlaaGreatLawG
import Derived.BigRegion
namespace Go.Proofs.YtmgjegokkbghlaaGreat
open Go.RowKit Go.Maps Bdd
set_option linter.unusedVariables false
attribute [local go_sem ↓] Go.wp_at_zero Go.wp_at_succ

set_option maxRecDepth 100000 in
theorem isMake_yes {w : World} {k : Int} (h : 2 ≤ k ∧ k ≤ 6) : Calls Tryz.prog 13 #[.int .i64 k] w fun e w' => e = .returned (.bool true) ∧ w = w' := by
  obtain ⟨h1, h2⟩ := h
  go_enter Tryz.func13, Tryz.ntmps13
  go_wp2_with fail
  go_ret
  exact ⟨rfl, rfl⟩
set_option maxRecDepth 100000 in
theorem isMake_no {w : World} {k : Int} (h : k < 2 ∨ 6 < k) (h11 : k ≤ 11) : Calls Tryz.prog 13 #[.int .i64 k] w fun e w' => e = .returned (.bool false) ∧ w = w' := by
  by_cases h1 : k < 2
  · clear h
    go_enter Tryz.func13, Tryz.ntmps13
    go_wp2_with fail
    go_ret
    exact ⟨rfl, rfl⟩
  · have h2 : 6 < k := by omega
    have h3 : 2 ≤ k := by omega
    have d6 : decide (k ≤ 6) = false := by simp; omega
    clear h h1
    go_enter Tryz.func13, Tryz.ntmps13
    go_wp2_with fail
    go_ret
    exact ⟨rfl, rfl⟩

theorem tmod_in (m : Int) {n : Nat} (hn : 0 < n) : -(n : Int) < m.tmod n ∧ m.tmod n < (n : Int) := by
  by_cases h : 0 ≤ m
  · rw [Int.tmod_eq_emod_of_nonneg h]
    have h0 := Int.emod_nonneg m (b := (n : Int)) (by omega)
    have h1 := Int.emod_lt_of_pos m (b := (n : Int)) (by omega)
    omega
  · have e : m.tmod n = -((-m).tmod n) := by rw [Int.neg_tmod, Int.neg_neg]
    rw [e, Int.tmod_eq_emod_of_nonneg (by omega)]
    have h0 := Int.emod_nonneg (-m) (b := (n : Int)) (by omega)
    have h1 := Int.emod_lt_of_pos (-m) (b := (n : Int)) (by omega)
    omega
theorem pick_pair {m : Int} {n : Nat} (hn : 0 < n) (hn2 : n ≤ 4000000000000) : ∃ i : Nat, i < n ∧ (wrap64 (m.tmod n + n)).tmod n = (i : Int) := by
  obtain ⟨h1, h2⟩ := tmod_in m hn
  have e : wrap64 (m.tmod n + n) = m.tmod n + n := IntWalk.wrap64_in _ ⟨by omega, by omega⟩
  rw [e, Int.tmod_eq_emod_of_nonneg (by omega)]
  have h3 := Int.emod_nonneg (m.tmod n + n) (b := (n : Int)) (by omega)
  have h4 := Int.emod_lt_of_pos (m.tmod n + n) (b := (n : Int)) (by omega)
  exact ⟨((m.tmod n + n) % n).toNat, by omega, by omega⟩

/-- behind a call on all three of a pair -/
theorem WX.three {w0 wd w1 w2 w3 : World} {own own1 own2 : Own} {W K i : Nat} {ps : List Pr} {hs : List Nat} {x : Pr} {A' : Abs} {lb : Int} (hW : WAt w0 wd own W ps hs K) (hx : ps[i]? = some x)
    (e1 : own1 = newOwn own wd (2, i)) (e2 : own2 = newOwn own1 w1 (3, i)) (hA : AbsOk A') (hla : A'.la ≤ ((K + 1 : Nat) : Int)) (hlb : lb ≤ 1 + 100000 * ((K + 1 : Nat) : Int))
    (hp : PS w1 own1 (2, i) x.p A' lb) (op : Only own (2, i) wd w1) (hq : PS w2 own2 (3, i) x.q A' lb) (oq : Only own1 (3, i) w1 w2) (hr : RW w3 (newOwn own2 w2 (4, i)) (4, i) x.r A') (or : Only own2 (4, i) w2 w3) :
    ∃ own', WAt w0 w3 own' W (ps.set i ⟨x.p, x.q, x.r, A'⟩) hs (K + 1) := by
  have h0 : WX (fun j => j ≠ i) w0 wd own W ps hs K := hW.sub (fun _ _ => trivial)
  have h1 : WX (fun j => j ≠ i) w0 w1 own1 W ps hs K := h0.frame op (by simp) (by simp) (fun j hj => by simpa using hj) (fun j hj => by simp) (fun j hj => by simp) (fun j => by simp) (fun b tg hb _ e => by rw [e1]; exact newOwn_stays hb e) h0.low.size
  have h2 : WX (fun j => j ≠ i) w0 w2 own2 W ps hs K := h1.frame oq (by simp) (by simp) (fun j hj => by simp) (fun j hj => by simpa using hj) (fun j hj => by simp) (fun j => by simp) (fun b tg hb _ e => by rw [e2]; exact newOwn_stays hb e) h1.low.size
  have h3 : WX (fun j => j ≠ i) w0 w3 (newOwn own2 w2 (4, i)) W ps hs K := h2.frame or (by simp) (by simp) (fun j hj => by simp) (fun j hj => by simp) (fun j hj => by simpa using hj) (fun j => by simp) (fun b tg hb _ e => newOwn_stays hb e) h2.low.size
  have hp2 : PS w2 own2 (2, i) x.p A' lb := hp.frame oq (by simp) (fun b hb e => by rw [e2]; exact newOwn_stays hb e)
  have hp3 : PS w3 (newOwn own2 w2 (4, i)) (2, i) x.p A' lb := hp2.frame or (by simp) (fun b hb e => newOwn_stays hb e)
  have hq3 : PS w3 (newOwn own2 w2 (4, i)) (3, i) x.q A' lb := hq.frame or (by simp) (fun b hb e => newOwn_stays hb e)
  refine ⟨newOwn own2 w2 (4, i), h3.low, h3.mine, h3.ow, h3.fr, ?_, h3.c1, h3.c2, fun j y _ hy => ?_, h3.hds, by simp; exact Nat.le_succ_of_le h3.kp, Nat.le_succ_of_le h3.kh⟩
  · rw [flatP_set (x' := ⟨x.p, x.q, x.r, A'⟩) hx rfl, List.length_set]
    exact h3.c0
  · by_cases ej : j = i
    · subst ej
      have hlt : j < ps.length := by
        false_or_by_contra
        rename_i hc
        rw [List.getElem?_eq_none (by omega)] at hx
        cases hx
      rw [List.getElem?_set_self hlt] at hy
      cases hy
      exact ⟨hA, hla, hp3.wider hlb, hq3.wider hlb, hr⟩
    · rw [List.getElem?_set_ne (fun e => ej e.symm)] at hy
      exact (h3.prs j y ej hy).wider (Nat.le_succ K)

theorem Free.three {w wd w1 w2 w3 : World} {own ownd own1 own2 : Own} {i : Nat} (hk : Keeps [] w wd) (e0 : ∀ b, b < w.heap.size → ownd b = own b) (e1 : own1 = newOwn ownd wd (2, i)) (e2 : own2 = newOwn own1 w1 (3, i)) (o1 : Only ownd (2, i) wd w1) (o2 : Only own1 (3, i) w1 w2) (o3 : Only own2 (4, i) w2 w3) : Free own w w3 := by
  intro p u h0 hc
  have hl := cell_lt hc
  have hd : ownd p.block = (0, 3) := by rw [e0 _ hl]; exact h0
  have hsd := hk.size
  have hs1 := o1.size
  have h1 : own1 p.block = (0, 3) := by rw [e1]; exact newOwn_stays (by omega) hd
  have h2 : own2 p.block = (0, 3) := by rw [e2]; exact newOwn_stays (by omega) h1
  exact o3.cell (o2.cell (o1.cell (hk.cell hc (by simp)) (by rw [hd]; simp)) (by rw [h1]; simp)) (by rw [h2]; simp)

/-- behind a call, the rest is as it was -/
theorem made_la (A : Abs) (m : Int ⊕ Fun) : (madeOf A m).2.2.la ≤ A.la + 1 := by
  cases m with
  | inl e => simp only [madeOf]; omega
  | inr F =>
    simp only [madeOf, outcome]
    split
    · simp; omega
    · split
      · simp; omega
      · simp [Abs.add]
theorem rel_la (A : Abs) (f : Int) : (relOf A f).2.la = A.la := by
  unfold relOf
  split
  · rfl
  · rfl
theorem AbsOk.rel {A : Abs} (h : AbsOk A) (f : Int) : AbsOk (relOf A f).2 := by
  unfold relOf
  split
  · exact h.del f
  · exact h

set_option maxRecDepth 100000 in
set_option maxHeartbeats 4000000 in
theorem step_old {w0 w : World} {own : Own} {W K : Nat} {ps : List Pr} {hs : List Nat} (hW : WAt w0 w own W ps hs K) (hK : K < 4000000000000) (hps : 0 < ps.length) {k m a b c : Int} {l : Value} {va : Option Addr} {vn vc : Nat} {f : Nat → Bool} (hk1 : k ≠ 1) (hk11 : k ≤ 11) (hkf : Fits k) (hm : Fits m) (ha : Fits a) (hb : Fits b) (hc : Fits c) (hvn : vn ≤ 140737488351232) (hv0 : TruthsIn w0 va vn f) :
    Calls Tryz.prog 9 #[ptr W, opV k m a b c l (.slice va vn vc)] w fun e w' => e = .returned (.bool true) ∧ (∃ own' ps' hs', ps'.length = ps.length ∧ WAt w0 w' own' W ps' hs' (K + 1)) ∧ Free own w w' := by
  obtain ⟨pv, q1, q2, q3, q4⟩ := hW.c0
  obtain ⟨g, cap, rfl⟩ := row_slice q2 hps
  obtain ⟨i, hi, hidx⟩ := pick_pair (m := m) hps (by have := hW.kp; omega)
  obtain ⟨x, hx⟩ : ∃ x, ps[i]? = some x := ⟨_, List.getElem?_eq_getElem hi⟩
  obtain ⟨f0, f1, f2⟩ := flatP_get ps i x hx
  have r0 : w.cell? ⟨g, i * 3, none⟩ = some (.pointer (some ⟨x.p, 0, none⟩)) := by rw [World.ownsRow.cellAt q2 _ (by omega)]; exact f0
  have r1 : w.cell? ⟨g, i * 3 + 1, none⟩ = some (.pointer (some ⟨x.q, 0, none⟩)) := by rw [World.ownsRow.cellAt q2 _ (by omega)]; exact f1
  have r2 : w.cell? ⟨g, i * 3 + 2, none⟩ = some (.pointer (some ⟨x.r, 0, none⟩)) := by rw [World.ownsRow.cellAt q2 _ (by omega)]; exact f2
  have hgl : g < w.heap.size := cell_lt r0
  have hWl : W < w.heap.size := hW.lt
  obtain ⟨n, hn⟩ : ∃ n, n = ps.length := ⟨_, rfl⟩
  rw [← hn] at q1 hidx hi hps
  have hnK : (n : Int) ≤ 4000000000000 := by have := hW.kp; omega
  have hz : ((n : Int) == 0) = false := by simp; omega
  have hz2 : ¬ n = 0 := by omega
  have hi0 : (0 : Int) ≤ (i : Int) := by omega
  have hi1 : (i : Int) < (n : Int) := by omega
  have hne1 : (k == 1) = false := by simpa using hk1
  have HW : Hid (WAt w0 w own W ps hs K) := hW
  have HX : Hid (ps[i]? = some x) := hx
  have HN : Hid (n = ps.length) := hn
  have HV0 : Hid (TruthsIn w0 va vn f) := hv0
  have HF : Hid (Fits k ∧ Fits m ∧ Fits a ∧ Fits b ∧ Fits c) := ⟨hkf, hm, ha, hb, hc⟩
  have HK1 : Hid (k ≠ 1) := hk1
  obtain ⟨p, hp'⟩ : ∃ p, p = x.p := ⟨_, rfl⟩
  obtain ⟨q, hq'⟩ : ∃ q, q = x.q := ⟨_, rfl⟩
  obtain ⟨r, hr'⟩ : ∃ r, r = x.r := ⟨_, rfl⟩
  have HPE : Hid (p = x.p ∧ q = x.q ∧ r = x.r) := ⟨hp', hq', hr'⟩
  rw [← hp'] at r0
  rw [← hq'] at r1
  rw [← hr'] at r2
  clear q2 q3 q4 f0 f1 f2 hW hx hn hv0 hk1 hp' hq' hr'
  unfold Fits at hm ha hb hc hkf
  show Calls Tryz.prog 9 #[.pointer (some ⟨W, 0, none⟩), .agg #[.int .i64 k, .int .i64 m, .int .i64 a, .int .i64 b, .int .i64 c, l, .slice va vn vc]] w _
  go_enter Tryz.func9, Tryz.ntmps9
  go_wp2_with fail
  go_region
  obtain ⟨wd, hwd⟩ : ∃ wd, wd = ((w.alloc (.cells #[.int .i64 k, .int .i64 m, .int .i64 a, .int .i64 b, .int .i64 c, l, .slice va vn vc] 34)).alloc (.cells #[.pointer (some ⟨p, 0, none⟩), .pointer (some ⟨q, 0, none⟩), .pointer (some ⟨r, 0, none⟩)] 44)).drew := ⟨_, rfl⟩
  rw [← hwd]
  have hkd : Keeps [] w wd := by rw [hwd]; exact (((Keeps.refl _ _).alloc _).alloc _).drew
  have ho : ∀ j u, #[Value.int .i64 k, .int .i64 m, .int .i64 a, .int .i64 b, .int .i64 c, l, .slice va vn vc][j]? = some u → wd.cell? ⟨w.heap.size, j, none⟩ = some u := fun j u h => by
    rw [hwd]
    exact (((Keeps.refl [] _).alloc _).drew).cell (cell_new w _ _ rfl h) (by simp)
  have hpc : ∀ j u, #[Value.pointer (some ⟨p, 0, none⟩), .pointer (some ⟨q, 0, none⟩), .pointer (some ⟨r, 0, none⟩)][j]? = some u → wd.cell? ⟨w.heap.size + 1, j, none⟩ = some u := fun j u h => by
    rw [hwd]
    exact ((Keeps.refl [] _).drew).cell (cell_new _ _ _ (by simp) h) (by simp)
  have o0 := ho 0 _ rfl
  have o1 := ho 1 _ rfl
  have o2 := ho 2 _ rfl
  have o3 := ho 3 _ rfl
  have o4 := ho 4 _ rfl
  have o5 := ho 5 _ rfl
  have o6 := ho 6 _ rfl
  have p0 := hpc 0 _ rfl
  have p1 := hpc 1 _ rfl
  have p2 := hpc 2 _ rfl
  have hWd : WAt w0 wd (newOwn own w (0, 3)) W ps hs K := HW.out.keeps hkd (fun b tg hb _ e => newOwn_stays hb e)
  have HWD : Hid (WAt w0 wd (newOwn own w (0, 3)) W ps hs K) := hWd
  have hsz : w.heap.size + 1 < wd.heap.size := cell_lt p0
  clear hwd ho hpc hWd r0 r1 r2 q1 hidx HW
  by_cases hmk : 2 ≤ k ∧ k ≤ 6
  · have him := isMake_yes (w := wd) hmk
    obtain ⟨hA, hla, hpp, hqq, hrr⟩ := HWD.out.prs i x trivial HX.out
    obtain ⟨ownd, hownd⟩ : ∃ ownd, ownd = newOwn own w (0, 3) := ⟨_, rfl⟩
    rw [← hownd] at hpp hqq hrr HWD
    have ob : ownd w.heap.size = (0, 3) := by rw [hownd]; exact newOwn_new (Nat.le_refl _)
    have HE0 : Hid (∀ b, b < w.heap.size → ownd b = own b) := fun b hb => by rw [hownd]; exact newOwn_old hb
    have oc : ownd (w.heap.size + 1) = (0, 3) := by rw [hownd]; exact newOwn_new (by omega)
    obtain ⟨M, hM⟩ : ∃ M, M = mk x.A k a b c := ⟨_, rfl⟩
    have hfit := HF.out
    have HA : Hid (AbsOk x.A) := hA
    have H1 : Hid (Calls Tryz.prog 14 #[.pointer (some ⟨W, 0, none⟩), .pointer (some ⟨p, 0, none⟩), .agg #[.int .i64 k, .int .i64 m, .int .i64 a, .int .i64 b, .int .i64 c, l, .slice va vn vc]] wd (MadeP wd ownd (2, i) x.p x.A (1 + 100000 * (K : Int)) M)) := by
      show Calls Tryz.prog 14 #[.pointer (some ⟨W, 0, none⟩), .pointer (some ⟨p, 0, none⟩), .agg #[.int .i64 k, .int .i64 m, .int .i64 a, .int .i64 b, .int .i64 c, l, .slice va vn vc]] wd _
      rw [HPE.out.1, hM]
      exact makes_any hA hpp (by omega) (by omega) hmk hfit.2.2.1 hfit.2.2.2.1 hfit.2.2.2.2
    have H2 : Hid (∀ (w1 : World) (own1 : Own), PS w1 own1 (3, i) x.q x.A (1 + 100000 * (K : Int)) → Calls Tryz.prog 14 #[.pointer (some ⟨W, 0, none⟩), .pointer (some ⟨q, 0, none⟩), .agg #[.int .i64 k, .int .i64 m, .int .i64 a, .int .i64 b, .int .i64 c, l, .slice va vn vc]] w1 (MadeP w1 own1 (3, i) x.q x.A (1 + 100000 * (K : Int)) M)) := fun w1 own1 hq1 => by
      rw [HPE.out.2.1, hM]
      exact makes_any hA hq1 (by omega) (by omega) hmk hfit.2.2.1 hfit.2.2.2.1 hfit.2.2.2.2
    have H3 : Hid (∀ (w2 : World) (own2 : Own), RW w2 own2 (4, i) x.r x.A → Known1 x.A M → Calls Tryz.prog 15 #[.pointer (some ⟨r, 0, none⟩), .agg #[.int .i64 k, .int .i64 m, .int .i64 a, .int .i64 b, .int .i64 c, l, .slice va vn vc]] w2 (MadeR w2 own2 (4, i) x.r x.A M)) := fun w2 own2 hr2 hkn => by
      rw [HPE.out.2.2]
      rw [hM] at hkn ⊢
      exact made_any hA hr2 (by omega) hmk hfit.2.2.1 hkn
    obtain ⟨X, hX⟩ : ∃ X, X = (madeOf x.A M).1 := ⟨_, rfl⟩
    obtain ⟨Y, hY⟩ : ∃ Y, Y = (madeOf x.A M).2.1 := ⟨_, rfl⟩
    have HXY : Hid (X = (madeOf x.A M).1 ∧ Y = (madeOf x.A M).2.1) := ⟨hX, hY⟩
    have HLA : Hid ((madeOf x.A M).2.2.la ≤ ((K + 1 : Nat) : Int)) := by
      have := made_la x.A M
      show _ ≤ _
      omega
    have HQQ : Hid (PS wd ownd (3, i) x.q x.A (1 + 100000 * (K : Int))) := hqq
    have HRR : Hid (RW wd ownd (4, i) x.r x.A) := hrr
    have e1 : (X == X) = true := by simp
    have e2 : (Y == Y) = true := by simp
    clear hA hla hpp hqq hrr hM hfit hX hY hownd
    go_wp2_with fail
    refine him.mono ?_
    rintro e w' ⟨rfl, rfl⟩
    go_wp2_with fail
    refine H1.out.mono ?_
    intro e w1 hh1
    have HH1 : Hid (MadeP wd ownd (2, i) x.p x.A (1 + 100000 * (K : Int)) M e w1) := hh1
    have he1 := hh1.1
    rw [← HXY.out.1, ← HXY.out.2] at he1
    obtain ⟨own1, hown1⟩ : ∃ own1, own1 = newOwn ownd wd (2, i) := ⟨_, rfl⟩
    have s0 := hh1.2.2.2.cell o0 (by show ¬ (ownd w.heap.size = _); rw [ob]; simp)
    have s1 := hh1.2.2.2.cell o1 (by show ¬ (ownd w.heap.size = _); rw [ob]; simp)
    have s2 := hh1.2.2.2.cell o2 (by show ¬ (ownd w.heap.size = _); rw [ob]; simp)
    have s3 := hh1.2.2.2.cell o3 (by show ¬ (ownd w.heap.size = _); rw [ob]; simp)
    have s4 := hh1.2.2.2.cell o4 (by show ¬ (ownd w.heap.size = _); rw [ob]; simp)
    have s5 := hh1.2.2.2.cell o5 (by show ¬ (ownd w.heap.size = _); rw [ob]; simp)
    have s6 := hh1.2.2.2.cell o6 (by show ¬ (ownd w.heap.size = _); rw [ob]; simp)
    have t1 := hh1.2.2.2.cell p1 (by show ¬ (ownd (w.heap.size + 1) = _); rw [oc]; simp)
    have t2 := hh1.2.2.2.cell p2 (by show ¬ (ownd (w.heap.size + 1) = _); rw [oc]; simp)
    have ob1 : own1 w.heap.size = (0, 3) := by rw [hown1]; exact newOwn_stays (by omega) ob
    have oc1 : own1 (w.heap.size + 1) = (0, 3) := by rw [hown1]; exact newOwn_stays (by omega) oc
    have HQ1 : Hid (PS w1 own1 (3, i) x.q x.A (1 + 100000 * (K : Int))) := HQQ.out.frame hh1.2.2.2 (by simp) (fun b hb e => by rw [hown1]; exact newOwn_stays hb e)
    have HR1 : Hid (RW w1 own1 (4, i) x.r x.A) := HRR.out.frame HA.out hh1.2.2.2 (by simp) (fun b hb e => by rw [hown1]; exact newOwn_stays hb e)
    have HO1 : Hid (own1 = newOwn ownd wd (2, i)) := hown1
    subst he1
    clear hh1 hown1 o0 o1 o2 o3 o4 o5 o6 p0 p1 p2
    go_wp2_with fail
    refine (H2.out _ _ HQ1.out).mono ?_
    intro e w2 hh2
    have HH2 : Hid (MadeP w1 own1 (3, i) x.q x.A (1 + 100000 * (K : Int)) M e w2) := hh2
    have he2 := hh2.1
    rw [← HXY.out.1, ← HXY.out.2] at he2
    obtain ⟨own2, hown2⟩ : ∃ own2, own2 = newOwn own1 w1 (3, i) := ⟨_, rfl⟩
    have o0 := hh2.2.2.2.cell s0 (by show ¬ (own1 w.heap.size = _); rw [ob1]; simp)
    have o1 := hh2.2.2.2.cell s1 (by show ¬ (own1 w.heap.size = _); rw [ob1]; simp)
    have o2 := hh2.2.2.2.cell s2 (by show ¬ (own1 w.heap.size = _); rw [ob1]; simp)
    have o3 := hh2.2.2.2.cell s3 (by show ¬ (own1 w.heap.size = _); rw [ob1]; simp)
    have o4 := hh2.2.2.2.cell s4 (by show ¬ (own1 w.heap.size = _); rw [ob1]; simp)
    have o5 := hh2.2.2.2.cell s5 (by show ¬ (own1 w.heap.size = _); rw [ob1]; simp)
    have o6 := hh2.2.2.2.cell s6 (by show ¬ (own1 w.heap.size = _); rw [ob1]; simp)
    have p2 := hh2.2.2.2.cell t2 (by show ¬ (own1 (w.heap.size + 1) = _); rw [oc1]; simp)
    have HR2 : Hid (RW w2 own2 (4, i) x.r x.A) := HR1.out.frame HA.out hh2.2.2.2 (by simp) (fun b hb e => by rw [hown2]; exact newOwn_stays hb e)
    have HO2 : Hid (own2 = newOwn own1 w1 (3, i)) := hown2
    subst he2
    clear hh2 hown2 s0 s1 s2 s3 s4 s5 s6 t1 t2
    go_wp2_with fail
    refine (H3.out _ _ HR2.out HH1.out.2.1).mono ?_
    intro e w3 hh3
    have HH3 : Hid (MadeR w2 own2 (4, i) x.r x.A M e w3) := hh3
    have he3 := hh3.1
    rw [← HXY.out.1, ← HXY.out.2] at he3
    subst he3
    clear hh3
    go_wp2_with fail
    go_ret
    refine ⟨rfl, ?_⟩
    have hp1 := HH1.out.2.2.1
    rw [← HO1.out] at hp1
    have hq2 := HH2.out.2.2.1
    rw [← HO2.out] at hq2
    obtain ⟨own', hfin⟩ := WX.three HWD.out HX.out HO1.out HO2.out (HA.out.made M) HLA.out (by omega) hp1 HH1.out.2.2.2 hq2 HH2.out.2.2.2 HH3.out.2.1 HH3.out.2.2
    exact ⟨⟨own', _, hs, by simp, hfin⟩, Free.three hkd HE0.out HO1.out HO2.out HH1.out.2.2.2 HH2.out.2.2.2 HH3.out.2.2⟩
  · have him := isMake_no (w := wd) (k := k) (by omega) hk11
    by_cases h7 : k = 7
    · subst h7
      obtain ⟨hA, hla, hpp, hqq, hrr⟩ := HWD.out.prs i x trivial HX.out
      obtain ⟨ownd, hownd⟩ : ∃ ownd, ownd = newOwn own w (0, 3) := ⟨_, rfl⟩
      rw [← hownd] at hpp hqq hrr HWD
      have ob : ownd w.heap.size = (0, 3) := by rw [hownd]; exact newOwn_new (Nat.le_refl _)
      have HE0 : Hid (∀ b, b < w.heap.size → ownd b = own b) := fun b hb => by rw [hownd]; exact newOwn_old hb
      have oc : ownd (w.heap.size + 1) = (0, 3) := by rw [hownd]; exact newOwn_new (by omega)
      have hfit := HF.out
      have HA : Hid (AbsOk x.A) := hA
      obtain ⟨Y, hY⟩ : ∃ Y, Y = (relOf x.A a).1 := ⟨_, rfl⟩
      have e2 : (Y == Y) = true := by simp
      have H1 : Hid (∀ (w1 : World) (own1 : Own) (tg : Tag) (s : Nat), PS w1 own1 tg s x.A (1 + 100000 * (K : Int)) → Calls Tryz.prog 16 #[.pointer (some ⟨s, 0, none⟩), .int .i64 a] w1 fun e w' => e = .returned (.int .i64 Y) ∧ PS w' (newOwn own1 w1 tg) tg s (relOf x.A a).2 (1 + 100000 * (K : Int)) ∧ Only own1 tg w1 w') := fun w1 own1 tg s h => by
        rw [hY]
        exact ps_release hA h hfit.2.2.1
      have H3 : Hid (∀ (w1 : World) (own1 : Own) (tg : Tag) (s : Nat), RW w1 own1 tg s x.A → Calls Tryz.prog 17 #[.pointer (some ⟨s, 0, none⟩), .int .i64 a] w1 fun e w' => e = .returned (.int .i64 Y) ∧ RW w' (newOwn own1 w1 tg) tg s (relOf x.A a).2 ∧ Only own1 tg w1 w') := fun w1 own1 tg s h => by
        rw [hY]
        exact rs_release hA h a
      have HLA : Hid ((relOf x.A a).2.la ≤ ((K + 1 : Nat) : Int)) := by
        show _ ≤ _
        rw [rel_la]
        omega
      have HPP : Hid (PS wd ownd (2, i) p x.A (1 + 100000 * (K : Int))) := by
        show PS wd ownd (2, i) p x.A _
        rw [HPE.out.1]; exact hpp
      have HQQ : Hid (PS wd ownd (3, i) q x.A (1 + 100000 * (K : Int))) := by
        show PS wd ownd (3, i) q x.A _
        rw [HPE.out.2.1]; exact hqq
      have HRR : Hid (RW wd ownd (4, i) r x.A) := by
        show RW wd ownd (4, i) r x.A
        rw [HPE.out.2.2]; exact hrr
      clear hA hla hpp hqq hrr hfit hY hownd
      go_wp2_with fail
      refine him.mono ?_
      rintro e w' ⟨rfl, rfl⟩
      go_wp2_with fail
      refine (H1.out _ _ _ _ HPP.out).mono ?_
      rintro e w1 ⟨rfl, hp1, hon1⟩
      obtain ⟨own1, hown1⟩ : ∃ own1, own1 = newOwn ownd wd (2, i) := ⟨_, rfl⟩
      have s2 := hon1.cell o2 (by show ¬ (ownd w.heap.size = _); rw [ob]; simp)
      have t1 := hon1.cell p1 (by show ¬ (ownd (w.heap.size + 1) = _); rw [oc]; simp)
      have t2 := hon1.cell p2 (by show ¬ (ownd (w.heap.size + 1) = _); rw [oc]; simp)
      have ob1 : own1 w.heap.size = (0, 3) := by rw [hown1]; exact newOwn_stays (by omega) ob
      have oc1 : own1 (w.heap.size + 1) = (0, 3) := by rw [hown1]; exact newOwn_stays (by omega) oc
      have HQ1 : Hid (PS w1 own1 (3, i) q x.A (1 + 100000 * (K : Int))) := HQQ.out.frame hon1 (by simp) (fun b hb e => by rw [hown1]; exact newOwn_stays hb e)
      have HR1 : Hid (RW w1 own1 (4, i) r x.A) := HRR.out.frame HA.out hon1 (by simp) (fun b hb e => by rw [hown1]; exact newOwn_stays hb e)
      have HO1 : Hid (own1 = newOwn ownd wd (2, i)) := hown1
      have HP1 : Hid (PS w1 own1 (2, i) p (relOf x.A a).2 (1 + 100000 * (K : Int)) ∧ Only ownd (2, i) wd w1) := by rw [← hown1] at hp1; exact ⟨hp1, hon1⟩
      clear hp1 hon1 hown1
      go_wp2_with fail
      refine (H1.out _ _ _ _ HQ1.out).mono ?_
      rintro e w2 ⟨rfl, hq2, hon2⟩
      obtain ⟨own2, hown2⟩ : ∃ own2, own2 = newOwn own1 w1 (3, i) := ⟨_, rfl⟩
      have u2 := hon2.cell s2 (by show ¬ (own1 w.heap.size = _); rw [ob1]; simp)
      have v2 := hon2.cell t2 (by show ¬ (own1 (w.heap.size + 1) = _); rw [oc1]; simp)
      have HR2 : Hid (RW w2 own2 (4, i) r x.A) := HR1.out.frame HA.out hon2 (by simp) (fun b hb e => by rw [hown2]; exact newOwn_stays hb e)
      have HO2 : Hid (own2 = newOwn own1 w1 (3, i)) := hown2
      have HQ2 : Hid (PS w2 own2 (3, i) q (relOf x.A a).2 (1 + 100000 * (K : Int)) ∧ Only own1 (3, i) w1 w2) := by rw [← hown2] at hq2; exact ⟨hq2, hon2⟩
      clear hq2 hon2 hown2
      go_wp2_with fail
      refine (H3.out _ _ _ _ HR2.out).mono ?_
      rintro e w3 ⟨rfl, hr3, hon3⟩
      have HR3 : Hid (RW w3 (newOwn own2 w2 (4, i)) (4, i) r (relOf x.A a).2 ∧ Only own2 (4, i) w2 w3) := ⟨hr3, hon3⟩
      clear hr3 hon3
      go_wp2_with fail
      go_ret
      refine ⟨rfl, ?_⟩
      obtain ⟨a1, a2⟩ := HP1.out
      obtain ⟨b1, b2⟩ := HQ2.out
      obtain ⟨c1, c2⟩ := HR3.out
      rw [HPE.out.1] at a1
      rw [HPE.out.2.1] at b1
      rw [HPE.out.2.2] at c1
      obtain ⟨own', hfin⟩ := WX.three HWD.out HX.out HO1.out HO2.out (HA.out.rel a) HLA.out (by omega) a1 a2 b1 b2 c1 c2
      exact ⟨⟨own', _, hs, by simp, hfin⟩, Free.three hkd HE0.out HO1.out HO2.out a2 b2 c2⟩
    · have d7 : (k == 7) = false := by simpa using h7
      have d18 : (k == 18) = false := by simp; omega
      have d19 : (k == 19) = false := by simp; omega
      have hfit := HF.out
      have HAK : Hid (Calls Tryz.prog 19 #[.pointer (some ⟨W, 0, none⟩), .agg #[.pointer (some ⟨p, 0, none⟩), .pointer (some ⟨q, 0, none⟩), .pointer (some ⟨r, 0, none⟩)], .agg #[.int .i64 k, .int .i64 m, .int .i64 a, .int .i64 b, .int .i64 c, l, .slice va vn vc]] wd fun e w' => e = .returned (.bool true) ∧ (∃ own' hs', WAt w0 w' own' W ps hs' (K + 1)) ∧ Free (newOwn own w (0, 3)) wd w') := by
        show Calls Tryz.prog 19 #[.pointer (some ⟨W, 0, none⟩), .agg #[.pointer (some ⟨p, 0, none⟩), .pointer (some ⟨q, 0, none⟩), .pointer (some ⟨r, 0, none⟩)], .agg #[.int .i64 k, .int .i64 m, .int .i64 a, .int .i64 b, .int .i64 c, l, .slice va vn vc]] wd _
        have hpr := HWD.out.prs i x trivial HX.out
        have kept : ∀ (e : Ending) (w' : World), (e = .returned (.bool true) ∧ Keeps [] wd w') → e = .returned (.bool true) ∧ (∃ own' hs', WAt w0 w' own' W ps hs' (K + 1)) ∧ Free (newOwn own w (0, 3)) wd w' := fun e w' hh => ⟨hh.1, ⟨newOwn own w (0, 3), hs, (HWD.out.keeps hh.2 (fun b tg hb _ e => e)).wider (Nat.le_succ K)⟩, Free.keeps hh.2⟩
        rw [HPE.out.1, HPE.out.2.1, HPE.out.2.2]
        by_cases h8 : k = 8
        · subst h8; exact (asks8 hpr hfit.2.2.1 hfit.2.2.2.1).mono kept
        by_cases h9 : k = 9
        · subst h9
          refine (asks9 HWD.out (by omega) HX.out hfit.2.2.1 hvn HV0.out).mono ?_
          rintro e w' ⟨rfl, ⟨own', h, hh⟩, hfr⟩
          exact ⟨rfl, ⟨own', _, hh⟩, hfr⟩
        by_cases h10 : k = 10
        · subst h10; exact (asks10 hpr hfit.2.2.1 hfit.2.2.2.1).mono kept
        by_cases h11 : k = 11
        · subst h11; exact (asks11 hpr hfit.2.2.1 hfit.2.2.2.1).mono kept
        exact (asks0 (by omega)).mono kept
      clear hfit h7 hmk
      go_wp2_with fail
      refine him.mono ?_
      rintro e w' ⟨rfl, rfl⟩
      go_wp2_with fail
      refine HAK.out.mono ?_
      rintro e w1 ⟨rfl, ⟨own', hs', hh⟩, hfr⟩
      have HH : Hid (WAt w0 w1 own' W ps hs' (K + 1)) := hh
      have HFR : Hid (Free own w w1) := fun p u h0 hc => hfr p u (newOwn_stays (cell_lt hc) h0) (hkd.cell hc (by simp))
      clear hh hfr
      go_wp2_with fail
      go_ret
      exact ⟨rfl, ⟨own', ps, hs', rfl, HH.out⟩, HFR.out⟩

end Go.Proofs.YtmgjegokkbghlaaGreat
