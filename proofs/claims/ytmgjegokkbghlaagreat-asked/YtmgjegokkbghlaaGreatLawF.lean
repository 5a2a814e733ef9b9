/- A pair of stores more: begin. -/
import Derived.Test.YtmgjegokkbghlaaGreatLawE
namespace Go.Proofs.YtmgjegokkbghlaaGreat
open Go.RowKit Go.Maps Bdd
set_option linter.unusedVariables false
attribute [local go_sem ↓] Go.wp_at_zero Go.wp_at_succ

/-- a call, as the script has it -/
def opV (k m a b c : Int) (l v : Value) : Value := .agg #[.int .i64 k, .int .i64 m, .int .i64 a, .int .i64 b, .int .i64 c, l, v]
def opC (k m a b c : Int) (l v : Value) : Array Value := #[.int .i64 k, .int .i64 m, .int .i64 a, .int .i64 b, .int .i64 c, l, v]

/-- what is nobody's stays as it was -/
def Free (own : Own) (w w' : World) : Prop := ∀ (p : Addr) (u : Value), own p.block = (0, 0) → w.cell? p = some u → w'.cell? p = some u
theorem Free.keeps {own : Own} {w w' : World} (hk : Keeps [] w w') : Free own w w' := fun p u _ hc => hk.cell hc (by simp)

theorem infoPair : (Tryz.prog.info? 44).map (fun i => (i.zero, i.size, i.bytes)) = some (some (.agg #[.pointer none, .pointer none, .pointer none]), 3, 24) := by kernel_rfl

/-- one pair more is set down among the others -/
theorem WX.pair {w0 w w3 w4 : World} {own own3 : Own} {W K : Nat} {ps : List Pr} {hs : List Nat} {pv pv' : Value} {x : Pr} (hW : WAt w0 w own W ps hs K)
    (q1 : w.cell? ⟨W, 0, none⟩ = some pv) (q2 : w.ownsRow 0 44 3 pv ps.length (flatP ps)) (q3 : pv.ownBlock ≠ some W) (q4 : ∀ g, pv.ownBlock = some g → own g = (1, 0))
    (hk : Keeps [] w w3) (ho3 : ∀ b, b < w.heap.size → own3 b = own b) (hx : PairOk w3 own3 ps.length x (K + 1))
    (hown : w4.ownsRow 0 44 3 pv' (ps.length + 1) (flatP ps ++ [ptr x.p, ptr x.q, ptr x.r])) (hg : w3.grownBy w4 pv.ownBlock) (hat : pv'.ownBlock = pv.ownBlock ∨ ∃ g, pv'.ownBlock = some g ∧ w3.heap.size ≤ g) :
    ∃ own', WAt w0 (w4.setCell ⟨W, 0, none⟩ pv') own' W (ps ++ [x]) hs (K + 1) ∧ Free own w (w4.setCell ⟨W, 0, none⟩ pv') := by
  obtain ⟨w', hw'⟩ : ∃ w', w' = w4.setCell ⟨W, 0, none⟩ pv' := ⟨_, rfl⟩
  rw [← hw']
  have hW3 : WAt w0 w3 own3 W ps hs K := hW.keeps hk (fun b tg hb _ e => by rw [ho3 b hb]; exact e)
  have hk4 : Keeps pv.ownBlock.toList w3 w4 := (Keeps.refl _ _).grown hg (fun j hj => Or.inl (by simp [hj]))
  have hk' : Keeps (W :: pv.ownBlock.toList) w3 w' := by rw [hw']; exact (hk4.mono (fun i hi => List.mem_cons_of_mem _ hi)).setCell ⟨W, 0, none⟩ (Or.inl (by simp)) _
  have hs3 := hk.size
  have q4' : ∀ g, pv.ownBlock = some g → own3 g = (1, 0) := fun g e => by rw [ho3 g (q2.lt g e).2]; exact q4 g e
  have hon : Onlys own3 (fun y => y = (1, 0)) w3 w' := ⟨_, hk', fun b hb => by
    rcases List.mem_cons.1 hb with e | hb
    · exact Or.inl (by rw [e]; exact hW3.ow)
    · exact Or.inl (q4' b (by simpa using hb))⟩
  obtain ⟨own', hown'⟩ : ∃ own' : Own, own' = newOwn own3 w3 (1, 0) := ⟨_, rfl⟩
  have o1 : ∀ b tg, b < w3.heap.size → own3 b = tg → own' b = tg := fun b tg hb e => by rw [hown', newOwn_old hb]; exact e
  obtain ⟨hv, h1, h2, h3, h4⟩ := hW3.c1
  have hdiff : (51 : TypeId) ≠ 44 := by decide
  have q2' : w3.ownsRow 0 44 3 pv ps.length (flatP ps) := row_keeps q2 hk (by simp)
  have nhv : ∀ g, hv.ownBlock = some g → g ∉ W :: pv.ownBlock.toList := fun g e hin => by
    rcases List.mem_cons.1 hin with e2 | hin
    · exact h3 (by rw [e, e2])
    · exact rows_apart h2 q2' hdiff g e (by simpa using hin)
  have nW2 : W ∉ pv.ownBlock.toList := by simpa using q3
  have hWl := hW3.lt
  have hvW : pv'.ownBlock ≠ some W := by
    rcases hat with e | ⟨g, e, hgl⟩
    · rw [e]; exact q3
    · rw [e]; intro e2; simp at e2; omega
  have hc4 : ∀ j v, w3.cell? ⟨W, j, none⟩ = some v → w4.cell? ⟨W, j, none⟩ = some v := fun j v hc => hk4.cell hc nW2
  refine ⟨own', ⟨low_keeps hW3.low hW3.mine hon (by simp), fun b hb => o1 b _ (by have := hW3.low.size; omega) (hW3.mine b hb), o1 W _ hWl hW3.ow, fun j => ?_, ⟨pv', ?_, ?_, hvW, fun g hg' => ?_⟩, ⟨hv, ?_, row_keeps h2 hk' nhv, h3, fun g e => o1 g _ (h2.lt g e).2 (h4 g e)⟩, ?_, fun i y _ hy => ?_, fun j y hy => ?_, by simp; exact hW.kp, Nat.le_succ_of_le hW.kh⟩, fun p u h0 hc => hon.cell (hk.cell hc (by simp)) (fun e => by rw [ho3 p.block (cell_lt hc), h0] at e; simp at e)⟩
  · rw [hw', World.frozen?_setCell, hk4.frozen (p := ⟨W, j, none⟩) hWl nW2]
    exact hW3.fr j
  · rw [hw']
    exact World.cell?_setCell_same _ _ _ (hc4 0 _ (hk.cell q1 (by simp)))
  · rw [hw', flatP_snoc, List.length_append]
    exact ownsRow_setCell_other hown hvW _
  · rcases hat with e | ⟨g2, e, hgl⟩
    · rw [e] at hg'
      exact o1 g _ (by have := (q2.lt g hg').2; omega) (q4' g hg')
    · have e3 : g2 = g := by rw [e] at hg'; simpa using hg'
      subst e3
      rw [hown']
      exact newOwn_new hgl
  · rw [hw', World.cell?_setCell_other _ _ _ _ (by simp)]
    exact hc4 1 _ h1
  · rw [hw', World.cell?_setCell_other _ _ _ _ (by simp)]
    exact hc4 2 _ hW3.c2
  · by_cases hi : i < ps.length
    · rw [List.getElem?_append_left hi] at hy
      exact ((hW3.prs i y trivial hy).wider (Nat.le_succ K)).frame hon (by simp) (by simp) (by simp) (fun b hb e => o1 b _ hb e) (fun b hb e => o1 b _ hb e) (fun b hb e => o1 b _ hb e)
    · rw [List.getElem?_append_right (by omega)] at hy
      have hj2 : i = ps.length := by
        have : i - ps.length < 1 := by
          false_or_by_contra
          rename_i hc
          rw [List.getElem?_eq_none (by simp; omega)] at hy
          cases hy
        omega
      subst hj2
      simp at hy
      subst hy
      exact hx.frame hon (by simp) (by simp) (by simp) (fun b hb e => o1 b _ hb e) (fun b hb e => o1 b _ hb e) (fun b hb e => o1 b _ hb e)
  · exact (hW3.hds j y hy).frame hon (by simp) (fun b hb e => o1 b _ hb e)

set_option maxRecDepth 100000 in
set_option maxHeartbeats 1000000 in
theorem begin_bad {w0 w : World} {own : Own} {W K : Nat} {ps : List Pr} {hs : List Nat} (hW : WAt w0 w own W ps hs K) {k m a b c : Int} {l v : Value} (h : a < 1 ∨ 8 < a ∨ b < 0 ∨ 2000 < b) :
    Calls Tryz.prog 8 #[ptr W, opV k m a b c l v] w fun e w' => e = .returned (.bool true) ∧ Keeps [] w w' := by
  have H1 : Hid (∀ w : World, Calls Tryz.prog 11 #[.int .i64 a, .int .i64 b] w fun e w' => e = .returned (.tuple #[.pointer none, .int .i64 1]) ∧ Keeps [] w w') := fun w => new_bad h
  have H2 : Hid (∀ w : World, Calls Tryz.prog 12 #[.int .i64 a, .int .i64 b] w fun e w' => e = .returned (.tuple #[.pointer none, .int .i64 1]) ∧ Keeps [] w w') := fun w => rnew_bad h
  clear h hW
  obtain ⟨wb, hwb⟩ : ∃ wb, wb = w.alloc (.cells (opC k m a b c l v) 34) := ⟨_, rfl⟩
  have hkb : Keeps [] w wb := by rw [hwb]; exact (Keeps.refl _ _).alloc _
  have b2 : wb.cell? ⟨w.heap.size, 2, none⟩ = some (.int .i64 a) := by rw [hwb]; simp [opC]
  have b3 : wb.cell? ⟨w.heap.size, 3, none⟩ = some (.int .i64 b) := by rw [hwb]; simp [opC]
  show Calls Tryz.prog 8 #[.pointer (some ⟨W, 0, none⟩), .agg #[.int .i64 k, .int .i64 m, .int .i64 a, .int .i64 b, .int .i64 c, l, v]] w _
  unfold opC at hwb
  go_enter Tryz.func8, Tryz.ntmps8
  go_wp2_with fail
  rw [← hwb]
  clear hwb
  refine (H1.out _).mono ?_
  rintro e w1 ⟨rfl, hk1⟩
  have d2 := hk1.cell b2 (by simp)
  have d3 := hk1.cell b3 (by simp)
  go_wp2_with fail
  refine (H1.out _).mono ?_
  rintro e w2 ⟨rfl, hk2⟩
  have f2 := hk2.cell d2 (by simp)
  have f3 := hk2.cell d3 (by simp)
  go_wp2_with fail
  refine (H2.out _).mono ?_
  rintro e w3 ⟨rfl, hk3⟩
  go_wp2_with fail
  go_ret
  exact ⟨rfl, ((hkb.trans hk1).trans hk2).trans hk3⟩

set_option maxRecDepth 100000 in
set_option maxHeartbeats 1000000 in
theorem begin_good {w0 w : World} {own : Own} {W K : Nat} {ps : List Pr} {hs : List Nat} (hW : WAt w0 w own W ps hs K) (hK : K ≤ 4000000000000) {k m b c : Int} {n : Nat} {l v : Value} (h1 : 1 ≤ n) (h8 : n ≤ 8) (hb0 : 0 ≤ b) (hb1 : b ≤ 2000) :
    Calls Tryz.prog 8 #[ptr W, opV k m n b c l v] w fun e w' => e = .returned (.bool true) ∧ ∃ own' x, x.A = Abs.new n b ∧ WAt w0 w' own' W (ps ++ [x]) hs (K + 1) ∧ Free own w w' := by
  have H1 : Hid (∀ (w : World) (own : Own) (tg : Tag), Calls Tryz.prog 11 #[.int .i64 n, .int .i64 b] w fun e w' => ∃ s, e = .returned (.tuple #[.pointer (some ⟨s, 0, none⟩), .int .i64 0]) ∧ PS w' (newOwn own w tg) tg s (Abs.new n b) 1 ∧ Keeps [] w w') := fun w own tg => ps_new h1 h8 hb0 hb1 own tg
  have H2 : Hid (∀ (w : World) (own : Own) (tg : Tag), Calls Tryz.prog 12 #[.int .i64 n, .int .i64 b] w fun e w' => ∃ r, e = .returned (.tuple #[.pointer (some ⟨r, 0, none⟩), .int .i64 0]) ∧ RW w' (newOwn own w tg) tg r (Abs.new n b) ∧ Keeps [] w w') := fun w own tg => rs_new h1 h8 hb0 hb1 own tg
  have HA : AbsOk (Abs.new n b) := AbsOk.fresh h1 h8 b
  obtain ⟨pv, q1, q2, q3, q4⟩ := hW.c0
  obtain ⟨ia, hia, z0, z1, z2⟩ := info_parts infoPair
  have hml : 5000000000000 < maxLen := by decide
  have hpK : ps.length ≤ 4000000000000 := Nat.le_trans hW.kp hK
  have hWl := hW.lt
  have hWf := hW.fr 0
  have HW : Hid (WAt w0 w own W ps hs K) := hW
  obtain ⟨wb, hwb⟩ : ∃ wb, wb = w.alloc (.cells (opC k m n b c l v) 34) := ⟨_, rfl⟩
  have hkb : Keeps [] w wb := by rw [hwb]; exact (Keeps.refl _ _).alloc _
  have b2 : wb.cell? ⟨w.heap.size, 2, none⟩ = some (.int .i64 n) := by rw [hwb]; simp [opC]
  have b3 : wb.cell? ⟨w.heap.size, 3, none⟩ = some (.int .i64 b) := by rw [hwb]; simp [opC]
  clear hW h1 h8 hb0 hb1
  show Calls Tryz.prog 8 #[.pointer (some ⟨W, 0, none⟩), .agg #[.int .i64 k, .int .i64 m, .int .i64 n, .int .i64 b, .int .i64 c, l, v]] w _
  unfold opC at hwb
  go_enter Tryz.func8, Tryz.ntmps8
  go_wp2_with fail
  rw [← hwb]
  clear hwb
  refine (H1.out _ own (2, ps.length)).mono ?_
  rintro e w1 ⟨s1, rfl, p1, hk1⟩
  have P1 : Hid (PS w1 (newOwn own wb (2, ps.length)) (2, ps.length) s1 (Abs.new n b) 1) := p1
  have d2 := hk1.cell b2 (by simp)
  have d3 := hk1.cell b3 (by simp)
  clear p1
  go_wp2_with fail
  refine (H1.out _ (newOwn own wb (2, ps.length)) (3, ps.length)).mono ?_
  rintro e w2 ⟨s2, rfl, p2, hk2⟩
  have P2 : Hid (PS w2 (newOwn (newOwn own wb (2, ps.length)) w1 (3, ps.length)) (3, ps.length) s2 (Abs.new n b) 1) := p2
  have f2 := hk2.cell d2 (by simp)
  have f3 := hk2.cell d3 (by simp)
  clear p2
  go_wp2_with fail
  refine (H2.out _ (newOwn (newOwn own wb (2, ps.length)) w1 (3, ps.length)) (4, ps.length)).mono ?_
  rintro e w3 ⟨r3, rfl, p3, hk3⟩
  have P3 : Hid (RW w3 (newOwn (newOwn (newOwn own wb (2, ps.length)) w1 (3, ps.length)) w2 (4, ps.length)) (4, ps.length) r3 (Abs.new n b)) := p3
  have hk : Keeps [] w w3 := ((hkb.trans hk1).trans hk2).trans hk3
  have g0 := hk.cell q1 (by simp)
  have gf : w3.frozen? ⟨W, 0, none⟩ = false := (hk.frozen (p := ⟨W, 0, none⟩) hWl (by simp)).trans hWf
  have HR : Hid (w3.ownsRow 0 44 3 pv ps.length (flatP ps)) := row_keeps q2 hk (by simp)
  have nW2 : W ∉ pv.ownBlock.toList := by simpa using q3
  have hW3 : W < w3.heap.size := by have := hk.size; omega
  obtain ⟨pa, pn, pc, rfl⟩ : ∃ a n c, pv = .slice a n c := by
    rcases q2.2 with ⟨e, _⟩ | ⟨g, cap, cur, e, _⟩
    · exact ⟨_, _, _, e⟩
    · exact ⟨_, _, _, e⟩
  have Q2 : Hid (w.ownsRow 0 44 3 (.slice pa pn pc) ps.length (flatP ps)) := q2
  obtain ⟨pl, hpl⟩ : ∃ pl, pl = ps.length := ⟨_, rfl⟩
  clear p3 q2
  go_wp2_with (first
    | (at_builtin; refine wpList_append_own_at _ rfl _ _ 26 rfl 0 44 ia _ 3 24 Tryz.underlying26 hia z0 z1 z2 rfl (by decide) _ ps.length (flatP ps) rfl (World.ownsRow.alloc HR.out _) ⟨w3.heap.size, 0, none⟩ 1 1 [ptr s1, ptr s2, ptr r3] rfl rfl (cells_laid _ _ _) (by simp [Value.oneCell', ptr]) (by omega) (by omega) (by simp) ?_; intro v4 w4 hown4 hgrow4 hnil4 hat4; obtain ⟨g4, cap4, hv4⟩ := row_slice hown4 (by omega); subst hv4; have kk4 : Keeps (Value.slice pa pn pc).ownBlock.toList w3 w4 := ((Keeps.refl _ w3).alloc _).grown hgrow4 (fun j hj => Or.inl (Option.mem_toList.2 hj)); have e1 := kk4.cell g0 nW2; have ef : w4.frozen? ⟨W, 0, none⟩ = false := (kk4.frozen (p := ⟨W, 0, none⟩) hW3 nW2).trans gf; have HG : Hid (w4.ownsRow 0 44 3 (.slice (some ⟨g4, 0, none⟩) (ps.length + 1) cap4) (ps.length + 1) (flatP ps ++ [ptr s1, ptr s2, ptr r3]) ∧ (w3.alloc (.cells #[ptr s1, ptr s2, ptr r3] 44)).grownBy w4 (Value.slice pa pn pc).ownBlock ∧ ((Value.slice (some ⟨g4, 0, none⟩) (ps.length + 1) cap4).ownBlock = (Value.slice pa pn pc).ownBlock ∨ (Value.slice (some ⟨g4, 0, none⟩) (ps.length + 1) cap4).ownBlock = some (w3.alloc (.cells #[ptr s1, ptr s2, ptr r3] 44)).heap.size)) := ⟨hown4, hgrow4, hat4⟩; clear hown4 hgrow4 hnil4 hat4 kk4)
    | fail)
  go_ret
  refine ⟨rfl, ?_⟩
  obtain ⟨k4, k5, k6⟩ := HG.out
  have hka : Keeps [] w3 (w3.alloc (.cells #[ptr s1, ptr s2, ptr r3] 44)) := (Keeps.refl _ _).alloc _
  obtain ⟨own3, hown3⟩ : ∃ own3, own3 = newOwn (newOwn (newOwn own wb (2, ps.length)) w1 (3, ps.length)) w2 (4, ps.length) := ⟨_, rfl⟩
  have hs1 := hk1.size
  have hs2 := hk2.size
  have hs0 := hkb.size
  have hx : PairOk (w3.alloc (.cells #[ptr s1, ptr s2, ptr r3] 44)) own3 ps.length ⟨s1, s2, r3, Abs.new n b⟩ (K + 1) := by
    refine ⟨HA, by simp [Abs.new]; omega, ((P1.out.keeps ((hk2.trans hk3).trans hka) (fun b hb e => ?_)).wider (by omega)), ((P2.out.keeps (hk3.trans hka) (fun b hb e => ?_)).wider (by omega)), P3.out.keeps HA hka (fun b hb e => by rw [hown3]; exact e)⟩
    · rw [hown3]
      unfold newOwn at e ⊢
      by_cases hb0 : b < wb.heap.size
      · rw [if_pos hb0] at e
        rw [if_pos (by omega), if_pos (by omega), if_pos hb0]
        exact e
      · rw [if_pos (by omega), if_pos hb, if_neg hb0]
    · rw [hown3]
      unfold newOwn at e ⊢
      rw [if_pos hb]
      exact e
  obtain ⟨own', hfin⟩ := WX.pair (x := ⟨s1, s2, r3, Abs.new n b⟩) HW.out q1 Q2.out q3 q4 (hk.trans hka) (fun b hb => by rw [hown3]; unfold newOwn; rw [if_pos (by omega), if_pos (by omega), if_pos (by omega)]) hx k4 k5 (k6.imp id (fun e => ⟨_, e, Nat.le_refl _⟩))
  exact ⟨own', _, rfl, hfin⟩

end Go.Proofs.YtmgjegokkbghlaaGreat
