/- Questions: asks, Least and Size; which calls make a function. -/
import Derived.Test.YtmgjegokkbghlaaGreatLawN
namespace Go.Proofs.YtmgjegokkbghlaaGreat
open Go.RowKit Go.Maps Bdd
set_option linter.unusedVariables false
attribute [local go_sem ↓] Go.wp_at_zero Go.wp_at_succ

set_option maxRecDepth 100000 in
theorem isMake_yes2 {w : World} {k : Int} (h : 12 ≤ k ∧ k ≤ 14) : Calls Tryz.prog 13 #[.int .i64 k] w fun e w' => e = .returned (.bool true) ∧ w = w' := by
  obtain ⟨h1, h2⟩ := h
  have h3 : 2 ≤ k := by omega
  have d6 : decide (k ≤ 6) = false := by simp; omega
  go_enter Tryz.func13, Tryz.ntmps13
  go_wp2_with fail
  go_ret
  exact ⟨rfl, rfl⟩
set_option maxRecDepth 100000 in
theorem isMake_no2 {w : World} {k : Int} (h : k < 2 ∨ (6 < k ∧ k < 12) ∨ 14 < k) : Calls Tryz.prog 13 #[.int .i64 k] w fun e w' => e = .returned (.bool false) ∧ w = w' := by
  by_cases h1 : k < 2
  · clear h
    go_enter Tryz.func13, Tryz.ntmps13
    go_wp2_with fail
    go_ret
    exact ⟨rfl, rfl⟩
  · have h2 : 6 < k := by omega
    have h3 : 2 ≤ k := by omega
    have d6 : decide (k ≤ 6) = false := by simp; omega
    by_cases h4 : k < 12
    · clear h h1
      go_enter Tryz.func13, Tryz.ntmps13
      go_wp2_with fail
      go_ret
      exact ⟨rfl, rfl⟩
    · have h5 : 12 ≤ k := by omega
      have d14 : decide (k ≤ 14) = false := by simp; omega
      clear h h1 h4
      go_enter Tryz.func13, Tryz.ntmps13
      go_wp2_with fail
      go_ret
      exact ⟨rfl, rfl⟩

set_option maxRecDepth 100000 in
theorem sameTruths_nil {w : World} : Calls Tryz.prog 52 #[.slice none 0 0, .slice none 0 0] w fun e w' => e = .returned (.bool true) ∧ Keeps [] w w' := by
  go_enter Tryz.func52, Tryz.ntmps52
  go_wp2_with fail
  go_loopw [5] (fun x wr => x = .int .i64 0 ∧ Keeps [] w wr) (fun _ _ => 0)
  case atStart => exact ⟨rfl, Keeps.refl _ _⟩
  case round =>
    obtain ⟨rfl, hk⟩ := hrel
    go_wp2_with fail
    go_ret
    exact ⟨rfl, hk⟩

/-- two answers of Least are the same -/
theorem LeastV.same {A : Abs} {f : Int} {w1 w2 : World} {b1 b2 : Nat} {v1 v2 : Value} {x1 x2 : Int} (h1 : LeastV A f w1 b1 v1 x1) (h2 : LeastV A f w2 b2 v2 x2) : x1 = x2 ∧ ((v1 = .slice none 0 0 ∧ v2 = .slice none 0 0) ∨ ∃ i, w1.ownsRow b1 4 1 v1 A.n (digB A.n i A.n) ∧ w2.ownsRow b2 4 1 v2 A.n (digB A.n i A.n)) := by
  rcases h1 with ⟨a1, a2, a3⟩ | ⟨F, a1, a2, a3⟩
  · rcases h2 with ⟨b1, b2, b3⟩ | ⟨G, b1, b2, b3⟩
    · exact ⟨by rw [a3, b3], Or.inl ⟨a2, b2⟩⟩
    · rw [a1] at b1; cases b1
  · rcases h2 with ⟨b1, b2, b3⟩ | ⟨G, b1, b2, b3⟩
    · rw [a1] at b1; cases b1
    · rw [a1] at b1
      cases b1
      refine ⟨by rw [a2, b2], ?_⟩
      rcases a3 with ⟨c1, c2⟩ | ⟨i, c1, c2, c3, c4⟩
      · rcases b3 with ⟨d1, d2⟩ | ⟨j, d1, d2, d3, d4⟩
        · exact Or.inl ⟨c2, d2⟩
        · rw [c1 j d1] at d2; cases d2
      · rcases b3 with ⟨d1, d2⟩ | ⟨j, d1, d2, d3, d4⟩
        · rw [d1 i c1] at c2; cases c2
        · have e : i = j := by
            rcases Nat.lt_trichotomy i j with h | h | h
            · rw [d3 i h] at c2; cases c2
            · exact h
            · rw [c3 j h] at d2; cases d2
          subst e
          exact Or.inr ⟨i, c4, d4⟩

set_option maxRecDepth 100000 in
set_option maxHeartbeats 1000000 in
theorem asks16 {w : World} {own : Own} {i : Nat} {x : Pr} {K W : Nat} (h : PairOk w own i x K) {m a b c : Int} {l v : Value} (ha : Fits a) :
    Calls Tryz.prog 19 #[ptr W, .agg #[ptr x.p, ptr x.q, ptr x.r], opV 16 m a b c l v] w fun e w' => e = .returned (.bool true) ∧ Keeps [] w w' := by
  obtain ⟨hA, _, hp, hq, hr⟩ := h
  obtain ⟨wb, hwb⟩ : ∃ wb, wb = boxed w x.p x.q x.r 16 m a b c l v := ⟨_, rfl⟩
  have hkb : Keeps [] w wb := by rw [hwb]; exact boxed_keeps ..
  have x0 : wb.cell? ⟨w.heap.size, 0, none⟩ = some (.pointer (some ⟨x.p, 0, none⟩)) := by rw [hwb]; exact boxed_pair _ _ _ _ _ _ _ _ _ _ _ 0 _ rfl
  have x2 : wb.cell? ⟨w.heap.size, 2, none⟩ = some (.pointer (some ⟨x.r, 0, none⟩)) := by rw [hwb]; exact boxed_pair _ _ _ _ _ _ _ _ _ _ _ 2 _ rfl
  have o0 : wb.cell? ⟨w.heap.size + 1, 0, none⟩ = some (.int .i64 16) := by rw [hwb]; exact boxed_op _ _ _ _ _ _ _ _ _ _ _ 0 _ rfl
  have o2 : wb.cell? ⟨w.heap.size + 1, 2, none⟩ = some (.int .i64 a) := by rw [hwb]; exact boxed_op _ _ _ _ _ _ _ _ _ _ _ 2 _ rfl
  have HP : Hid (Calls Tryz.prog 61 #[.pointer (some ⟨x.p, 0, none⟩), .int .i64 a] wb fun e w' => Keeps [] wb w' ∧ ∃ s1 s2 : Int, e = .returned (.tuple #[.int .i64 s1, .int .i64 s2]) ∧ Calls Tryz.prog 62 #[.pointer (some ⟨x.r, 0, none⟩), .int .i64 a] w' fun e w2 => e = .returned (.tuple #[.int .i64 s1, .int .i64 s2]) ∧ Keeps [] w' w2) := by
    refine (ps_size hA (hp.keeps hkb (own' := own) (fun _ _ e => e)) ha).mono ?_
    rintro e w' ⟨hk, s1, s2, rfl, hh⟩
    exact ⟨hk, s1, s2, rfl, hh w' own (4, i) x.r (hr.keeps hA (hkb.trans hk) (fun _ _ e => e))⟩
  obtain ⟨p, hp'⟩ : ∃ p, p = x.p := ⟨_, rfl⟩
  obtain ⟨q, hq'⟩ : ∃ q, q = x.q := ⟨_, rfl⟩
  obtain ⟨r, hr'⟩ : ∃ r, r = x.r := ⟨_, rfl⟩
  rw [← hp'] at HP x0 hwb ⊢
  rw [← hr'] at HP x2 hwb ⊢
  rw [← hq'] at hwb ⊢
  clear hA hp hq hr hp' hq' hr'
  unfold Fits at ha
  show Calls Tryz.prog 19 #[.pointer (some ⟨W, 0, none⟩), .agg #[.pointer (some ⟨p, 0, none⟩), .pointer (some ⟨q, 0, none⟩), .pointer (some ⟨r, 0, none⟩)], .agg #[.int .i64 16, .int .i64 m, .int .i64 a, .int .i64 b, .int .i64 c, l, v]] w _
  unfold boxed opC ptr at hwb
  go_enter Tryz.func19, Tryz.ntmps19
  go_wp2_with fail
  rw [← hwb]
  clear hwb
  refine HP.out.mono ?_
  rintro e w1 ⟨hk1, s1, s2, rfl, hh⟩
  have HH : Hid (Calls Tryz.prog 62 #[.pointer (some ⟨r, 0, none⟩), .int .i64 a] w1 fun e w2 => e = .returned (.tuple #[.int .i64 s1, .int .i64 s2]) ∧ Keeps [] w1 w2) := hh
  have y2 := hk1.cell x2 (by simp)
  have z2 := hk1.cell o2 (by simp)
  have e1 : (s1 == s1) = true := by simp
  have e2 : (s2 == s2) = true := by simp
  clear hh
  go_wp2_with fail
  refine HH.out.mono ?_
  rintro e w2 ⟨rfl, hk2⟩
  go_wp2_with fail
  go_ret
  exact ⟨rfl, (hkb.trans hk1).trans hk2⟩

set_option maxRecDepth 100000 in
set_option maxHeartbeats 2000000 in
theorem asks15 {w0 w : World} {own : Own} {W K i : Nat} {ps : List Pr} {hs : List Nat} {x : Pr} (hW : WAt w0 w own W ps hs K) (hK : K ≤ 4000000000000) (hx : ps[i]? = some x) {m a b c : Int} {l v : Value} (ha : Fits a) :
    Calls Tryz.prog 19 #[ptr W, .agg #[ptr x.p, ptr x.q, ptr x.r], opV 15 m a b c l v] w fun e w' => e = .returned (.bool true) ∧ (∃ own' h, WAt w0 w' own' W ps (hs ++ [h]) (K + 1)) ∧ Free own w w' := by
  have HW : Hid (WAt w0 w own W ps hs K) := hW
  obtain ⟨hA, _, hp, hq, hr⟩ := hW.prs i x trivial hx
  obtain ⟨wb, hwb⟩ : ∃ wb, wb = boxed w x.p x.q x.r 15 m a b c l v := ⟨_, rfl⟩
  have hkb : Keeps [] w wb := by rw [hwb]; exact boxed_keeps ..
  have x0 : wb.cell? ⟨w.heap.size, 0, none⟩ = some (.pointer (some ⟨x.p, 0, none⟩)) := by rw [hwb]; exact boxed_pair _ _ _ _ _ _ _ _ _ _ _ 0 _ rfl
  have x2 : wb.cell? ⟨w.heap.size, 2, none⟩ = some (.pointer (some ⟨x.r, 0, none⟩)) := by rw [hwb]; exact boxed_pair _ _ _ _ _ _ _ _ _ _ _ 2 _ rfl
  have o0 : wb.cell? ⟨w.heap.size + 1, 0, none⟩ = some (.int .i64 15) := by rw [hwb]; exact boxed_op _ _ _ _ _ _ _ _ _ _ _ 0 _ rfl
  have o2 : wb.cell? ⟨w.heap.size + 1, 2, none⟩ = some (.int .i64 a) := by rw [hwb]; exact boxed_op _ _ _ _ _ _ _ _ _ _ _ 2 _ rfl
  have hn8 := hA.n8
  have hn1 := hA.n1
  have HP : Hid (Calls Tryz.prog 59 #[.pointer (some ⟨x.p, 0, none⟩), .int .i64 a] wb fun e w' => Keeps [] wb w' ∧ ∃ v s, e = .returned (.tuple #[v, .int .i64 s]) ∧ LeastV x.A a w' wb.heap.size v s) := ps_least hA (hp.keeps hkb (own' := own) (fun _ _ e => e)) ha
  have HR : Hid (∀ w1, Keeps [] wb w1 → Calls Tryz.prog 60 #[.pointer (some ⟨x.r, 0, none⟩), .int .i64 a] w1 fun e w' => Keeps [] w1 w' ∧ ∃ v s, e = .returned (.tuple #[v, .int .i64 s]) ∧ LeastV x.A a w' w1.heap.size v s) := fun w1 hk => rs_least hA (hr.keeps hA (hkb.trans hk) (own' := own) (fun _ _ e => e)) a
  have HKT : Hid (∀ (w1 : World) (v : Value) (n : Nat) (f : Nat → Bool), Keeps [] w w1 → n ≤ 8 → w1.ownsRow wb.heap.size 4 1 v n (rowB n f) → Calls Tryz.prog 53 #[.pointer (some ⟨W, 0, none⟩), v] w1 fun e w' => e = .returned (.tuple #[]) ∧ (∃ own' h, WAt w0 w' own' W ps (hs ++ [h]) (K + 1)) ∧ Free own w w') := fun w1 v n f hk hn hown => by
    have hs1 := hk.size
    refine Calls.mono (keepTruths_any (own := newOwn own w (0, 0)) (HW.out.keeps hk (fun b tg hb _ e => by rw [newOwn_old hb]; exact e)) (by omega) (base := 0) (row_mono hown (Nat.zero_le _)) (Nat.zero_le _) (by omega) (fun g' e => newOwn_new (by have h1 := (hown.lt g' e).1; have h2 := hkb.size; omega))) ?_
    rintro e w' ⟨rfl, own', h, h1, h2, _, _⟩
    refine ⟨rfl, ⟨own', h, h1⟩, fun p u h0 hc => h2 p u (by rw [newOwn_old (cell_lt hc), h0]; simp) (fun e => ?_) (hk.cell hc (by simp))⟩
    have h3 := (hown.lt _ e).1
    have h4 := hkb.size
    have h5 := cell_lt hc
    omega
  obtain ⟨n, hnn⟩ : ∃ n, n = x.A.n := ⟨_, rfl⟩
  have HNN : Hid (n = x.A.n) := hnn
  obtain ⟨p, hp'⟩ : ∃ p, p = x.p := ⟨_, rfl⟩
  obtain ⟨q, hq'⟩ : ∃ q, q = x.q := ⟨_, rfl⟩
  obtain ⟨r, hr'⟩ : ∃ r, r = x.r := ⟨_, rfl⟩
  rw [← hp'] at HP x0 hwb ⊢
  rw [← hr'] at HR x2 hwb ⊢
  rw [← hq'] at hwb ⊢
  clear hA hp hq hr hp' hq' hr' hW hx hnn
  unfold Fits at ha
  show Calls Tryz.prog 19 #[.pointer (some ⟨W, 0, none⟩), .agg #[.pointer (some ⟨p, 0, none⟩), .pointer (some ⟨q, 0, none⟩), .pointer (some ⟨r, 0, none⟩)], .agg #[.int .i64 15, .int .i64 m, .int .i64 a, .int .i64 b, .int .i64 c, l, v]] w _
  unfold boxed opC ptr at hwb
  go_enter Tryz.func19, Tryz.ntmps19
  go_wp2_with fail
  rw [← hwb]
  clear hwb
  refine HP.out.mono ?_
  rintro e w1 ⟨hk1, v1, s1, rfl, hL1⟩
  have y2 := hk1.cell x2 (by simp)
  have z2 := hk1.cell o2 (by simp)
  have HL1 : Hid (LeastV x.A a w1 wb.heap.size v1 s1) := hL1
  clear hL1
  go_wp2_with fail
  refine (HR.out _ hk1).mono ?_
  rintro e w2 ⟨hk2, v2, s2, rfl, hL2⟩
  obtain ⟨es, hv⟩ := HL1.out.same hL2
  subst es
  have e1 : (s1 == s1) = true := by simp
  have hkw2 := (hkb.trans hk1).trans hk2
  obtain ⟨f, hS, hrow⟩ : ∃ f : Nat → Bool, Hid (Calls Tryz.prog 52 #[v1, v2] w2 fun e w' => e = .returned (.bool true) ∧ Keeps [] w2 w') ∧ ∃ n, n ≤ 8 ∧ w2.ownsRow wb.heap.size 4 1 v1 n (rowB n f) := by
    rcases hv with ⟨rfl, rfl⟩ | ⟨i, hr1, hr2⟩
    · exact ⟨fun _ => false, sameTruths_nil, 0, by omega, World.ownsRow_nil _ _ _ _⟩
    · refine ⟨fun v => asgN x.A.n i (v : Int), ?_, x.A.n, hn8, row_keeps hr1 hk2 (by simp)⟩
      have hr1' := row_keeps hr1 hk2 (S := []) (by simp)
      have hn1' := hn1
      · obtain ⟨g, cap, rfl⟩ := row_slice hr1' (by omega)
        obtain ⟨g', cap', rfl⟩ := row_slice hr2 (by omega)
        exact sameTruths_any (f := fun v => asgN x.A.n i (v : Int)) (by omega) (fun j hj => by rw [World.ownsRow.cellAt hr1' j (by omega)]; simp [digB, hj]) (fun j hj => by rw [World.ownsRow.cellAt hr2 j (by omega)]; simp [digB, hj])
  obtain ⟨n2, hn2, hrow2⟩ := hrow
  have HROW : Hid (w2.ownsRow wb.heap.size 4 1 v1 n2 (rowB n2 f)) := hrow2
  clear hv hL2 hrow2
  obtain ⟨a1, l1, c1, rfl⟩ : ∃ a1 l1 c1, v1 = .slice a1 l1 c1 := by
    rcases HROW.out.2 with ⟨e, _⟩ | ⟨g, cap, cur, e, _⟩
    · exact ⟨_, _, _, e⟩
    · exact ⟨_, _, _, e⟩
  go_wp2_with fail
  refine hS.out.mono ?_
  rintro e w3 ⟨rfl, hk3⟩
  have hkk := HKT.out w3 (.slice a1 l1 c1) n2 f (hkw2.trans hk3) hn2 (row_keeps HROW.out hk3 (by simp))
  go_wp2_with fail
  refine hkk.mono ?_
  rintro e w4 ⟨rfl, hfin⟩
  have HFIN : Hid ((∃ own' h, WAt w0 w4 own' W ps (hs ++ [h]) (K + 1)) ∧ Free own w w4) := hfin
  clear hfin hkk
  go_wp2_with fail
  go_ret
  exact ⟨rfl, HFIN.out⟩

end Go.Proofs.YtmgjegokkbghlaaGreat
