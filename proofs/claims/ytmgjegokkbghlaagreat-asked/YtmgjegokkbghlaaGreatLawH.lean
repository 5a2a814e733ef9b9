/- Questions: asks. -/
import Derived.Test.YtmgjegokkbghlaaGreatLawG
import Derived.Deep.RegionHeld3
namespace Go.Proofs.YtmgjegokkbghlaaGreat
open Go.RowKit Go.Maps Bdd
set_option linter.unusedVariables false
attribute [local go_sem ↓] Go.wp_at_zero Go.wp_at_succ

/-- the pair and the call, laid down -/
def boxed (w : World) (p q r : Nat) (k m a b c : Int) (l v : Value) : World := (w.alloc (.cells #[ptr p, ptr q, ptr r] 44)).alloc (.cells (opC k m a b c l v) 34)
theorem boxed_keeps (w : World) (p q r : Nat) (k m a b c : Int) (l v : Value) : Keeps [] w (boxed w p q r k m a b c l v) := ((Keeps.refl _ _).alloc _).alloc _
theorem boxed_pair (w : World) (p q r : Nat) (k m a b c : Int) (l v : Value) : ∀ j u, #[ptr p, ptr q, ptr r][j]? = some u → (boxed w p q r k m a b c l v).cell? ⟨w.heap.size, j, none⟩ = some u := fun j u h => ((Keeps.refl [] _).alloc _).cell (cell_new w _ _ rfl h) (by simp)
theorem boxed_op (w : World) (p q r : Nat) (k m a b c : Int) (l v : Value) : ∀ j u, (opC k m a b c l v)[j]? = some u → (boxed w p q r k m a b c l v).cell? ⟨w.heap.size + 1, j, none⟩ = some u := fun j u h => cell_new _ _ _ (by simp) h

section
variable {w : World} {own own2 : Own} {i : Nat} {x : Pr} {K W : Nat}
set_option maxRecDepth 100000 in
set_option maxHeartbeats 1000000 in
theorem asks8 (h : PairOk w own i x K) {m a b c : Int} {l v : Value} (ha : Fits a) (hb : Fits b) :
    Calls Tryz.prog 19 #[ptr W, .agg #[ptr x.p, ptr x.q, ptr x.r], opV 8 m a b c l v] w fun e w' => e = .returned (.bool true) ∧ Keeps [] w w' := by
  obtain ⟨hA, _, hp, hq, hr⟩ := h
  obtain ⟨wb, hwb⟩ : ∃ wb, wb = boxed w x.p x.q x.r 8 m a b c l v := ⟨_, rfl⟩
  have hkb : Keeps [] w wb := by rw [hwb]; exact boxed_keeps ..
  have x0 : wb.cell? ⟨w.heap.size, 0, none⟩ = some (.pointer (some ⟨x.p, 0, none⟩)) := by rw [hwb]; exact boxed_pair _ _ _ _ _ _ _ _ _ _ _ 0 _ rfl
  have x2 : wb.cell? ⟨w.heap.size, 2, none⟩ = some (.pointer (some ⟨x.r, 0, none⟩)) := by rw [hwb]; exact boxed_pair _ _ _ _ _ _ _ _ _ _ _ 2 _ rfl
  have o0 : wb.cell? ⟨w.heap.size + 1, 0, none⟩ = some (.int .i64 8) := by rw [hwb]; exact boxed_op _ _ _ _ _ _ _ _ _ _ _ 0 _ rfl
  have o2 : wb.cell? ⟨w.heap.size + 1, 2, none⟩ = some (.int .i64 a) := by rw [hwb]; exact boxed_op _ _ _ _ _ _ _ _ _ _ _ 2 _ rfl
  have o3 : wb.cell? ⟨w.heap.size + 1, 3, none⟩ = some (.int .i64 b) := by rw [hwb]; exact boxed_op _ _ _ _ _ _ _ _ _ _ _ 3 _ rfl
  have hPb := hp.keeps hkb (own' := own) (fun _ _ e => e)
  have HP : Hid (Calls Tryz.prog 48 #[.pointer (some ⟨x.p, 0, none⟩), .int .i64 a, .int .i64 b] wb fun e w' => e = .returned (.tuple #[.bool (sameOf x.A a b).1, .int .i64 (sameOf x.A a b).2]) ∧ Keeps [] wb w') := ps_same hPb ha hb
  have HR : Hid (∀ w', Keeps [] wb w' → Calls Tryz.prog 49 #[.pointer (some ⟨x.r, 0, none⟩), .int .i64 a, .int .i64 b] w' fun e w2 => e = .returned (.tuple #[.bool (sameOf x.A a b).1, .int .i64 (sameOf x.A a b).2]) ∧ w' = w2) := fun w' hk => rs_same hPb hA (hr.keeps hA (hkb.trans hk) (own' := own) (fun _ _ e => e)) a b
  obtain ⟨s1, hs1⟩ : ∃ s1, s1 = (sameOf x.A a b).1 := ⟨_, rfl⟩
  obtain ⟨s2, hs2⟩ : ∃ s2, s2 = (sameOf x.A a b).2 := ⟨_, rfl⟩
  rw [← hs1, ← hs2] at HP HR
  clear hs1 hs2
  have e1 : (s1 == s1) = true := by simp
  have e2 : (s2 == s2) = true := by simp
  obtain ⟨p, hp'⟩ : ∃ p, p = x.p := ⟨_, rfl⟩
  obtain ⟨q, hq'⟩ : ∃ q, q = x.q := ⟨_, rfl⟩
  obtain ⟨r, hr'⟩ : ∃ r, r = x.r := ⟨_, rfl⟩
  rw [← hp'] at HP x0 hwb ⊢
  rw [← hr'] at HR x2 hwb ⊢
  rw [← hq'] at hwb ⊢
  clear hA hp hq hr hPb hp' hq' hr'
  unfold Fits at ha hb
  show Calls Tryz.prog 19 #[.pointer (some ⟨W, 0, none⟩), .agg #[.pointer (some ⟨p, 0, none⟩), .pointer (some ⟨q, 0, none⟩), .pointer (some ⟨r, 0, none⟩)], .agg #[.int .i64 8, .int .i64 m, .int .i64 a, .int .i64 b, .int .i64 c, l, v]] w _
  unfold boxed opC ptr at hwb
  go_enter Tryz.func19, Tryz.ntmps19
  go_wp2_with fail
  rw [← hwb]
  clear hwb
  refine HP.out.mono ?_
  rintro e w1 ⟨rfl, hk1⟩
  have y2 := hk1.cell x2 (by simp)
  have z2 := hk1.cell o2 (by simp)
  have z3 := hk1.cell o3 (by simp)
  go_wp2_with fail
  refine (HR.out _ hk1).mono ?_
  rintro e w2 ⟨rfl, rfl⟩
  go_wp2_with fail
  go_ret
  exact ⟨rfl, hkb.trans hk1⟩

set_option maxRecDepth 100000 in
set_option maxHeartbeats 1000000 in
theorem asks10 (h : PairOk w own i x K) {m a b c : Int} {l v : Value} (ha : Fits a) (hb : Fits b) :
    Calls Tryz.prog 19 #[ptr W, .agg #[ptr x.p, ptr x.q, ptr x.r], opV 10 m a b c l v] w fun e w' => e = .returned (.bool true) ∧ Keeps [] w w' := by
  obtain ⟨hA, _, hp, hq, hr⟩ := h
  obtain ⟨wb, hwb⟩ : ∃ wb, wb = boxed w x.p x.q x.r 10 m a b c l v := ⟨_, rfl⟩
  have hkb : Keeps [] w wb := by rw [hwb]; exact boxed_keeps ..
  have x0 : wb.cell? ⟨w.heap.size, 0, none⟩ = some (.pointer (some ⟨x.p, 0, none⟩)) := by rw [hwb]; exact boxed_pair _ _ _ _ _ _ _ _ _ _ _ 0 _ rfl
  have x2 : wb.cell? ⟨w.heap.size, 2, none⟩ = some (.pointer (some ⟨x.r, 0, none⟩)) := by rw [hwb]; exact boxed_pair _ _ _ _ _ _ _ _ _ _ _ 2 _ rfl
  have o0 : wb.cell? ⟨w.heap.size + 1, 0, none⟩ = some (.int .i64 10) := by rw [hwb]; exact boxed_op _ _ _ _ _ _ _ _ _ _ _ 0 _ rfl
  have o2 : wb.cell? ⟨w.heap.size + 1, 2, none⟩ = some (.int .i64 a) := by rw [hwb]; exact boxed_op _ _ _ _ _ _ _ _ _ _ _ 2 _ rfl
  have o3 : wb.cell? ⟨w.heap.size + 1, 3, none⟩ = some (.int .i64 b) := by rw [hwb]; exact boxed_op _ _ _ _ _ _ _ _ _ _ _ 3 _ rfl
  have hPb := hp.keeps hkb (own' := own) (fun _ _ e => e)
  have HP : Hid (Calls Tryz.prog 55 #[.pointer (some ⟨x.p, 0, none⟩), .int .i64 a] wb fun e w' => e = .returned (.tuple #[.int .i64 (countOf x.A a).1, .int .i64 (countOf x.A a).2]) ∧ Keeps [] wb w') := ps_count hPb ha
  have HR : Hid (∀ w', Keeps [] wb w' → Calls Tryz.prog 56 #[.pointer (some ⟨x.r, 0, none⟩), .int .i64 a] w' fun e w2 => e = .returned (.tuple #[.int .i64 (countOf x.A a).1, .int .i64 (countOf x.A a).2]) ∧ w' = w2) := fun w' hk => rs_count hPb hA (hr.keeps hA (hkb.trans hk) (own' := own) (fun _ _ e => e)) a
  obtain ⟨s1, hs1⟩ : ∃ s1, s1 = (countOf x.A a).1 := ⟨_, rfl⟩
  obtain ⟨s2, hs2⟩ : ∃ s2, s2 = (countOf x.A a).2 := ⟨_, rfl⟩
  rw [← hs1, ← hs2] at HP HR
  clear hs1 hs2
  have e1 : (s1 == s1) = true := by simp
  have e2 : (s2 == s2) = true := by simp
  obtain ⟨p, hp'⟩ : ∃ p, p = x.p := ⟨_, rfl⟩
  obtain ⟨q, hq'⟩ : ∃ q, q = x.q := ⟨_, rfl⟩
  obtain ⟨r, hr'⟩ : ∃ r, r = x.r := ⟨_, rfl⟩
  rw [← hp'] at HP x0 hwb ⊢
  rw [← hr'] at HR x2 hwb ⊢
  rw [← hq'] at hwb ⊢
  clear hA hp hq hr hPb hp' hq' hr'
  unfold Fits at ha hb
  show Calls Tryz.prog 19 #[.pointer (some ⟨W, 0, none⟩), .agg #[.pointer (some ⟨p, 0, none⟩), .pointer (some ⟨q, 0, none⟩), .pointer (some ⟨r, 0, none⟩)], .agg #[.int .i64 10, .int .i64 m, .int .i64 a, .int .i64 b, .int .i64 c, l, v]] w _
  unfold boxed opC ptr at hwb
  go_enter Tryz.func19, Tryz.ntmps19
  go_wp2_with fail
  rw [← hwb]
  clear hwb
  refine HP.out.mono ?_
  rintro e w1 ⟨rfl, hk1⟩
  have y2 := hk1.cell x2 (by simp)
  have z2 := hk1.cell o2 (by simp)
  have z3 := hk1.cell o3 (by simp)
  go_wp2_with fail
  refine (HR.out _ hk1).mono ?_
  rintro e w2 ⟨rfl, rfl⟩
  go_wp2_with fail
  go_ret
  exact ⟨rfl, hkb.trans hk1⟩

set_option maxRecDepth 100000 in
set_option maxHeartbeats 1000000 in
theorem asks11 (h : PairOk w own i x K) {m a b c : Int} {l v : Value} (ha : Fits a) (hb : Fits b) :
    Calls Tryz.prog 19 #[ptr W, .agg #[ptr x.p, ptr x.q, ptr x.r], opV 11 m a b c l v] w fun e w' => e = .returned (.bool true) ∧ Keeps [] w w' := by
  obtain ⟨hA, _, hp, hq, hr⟩ := h
  obtain ⟨wb, hwb⟩ : ∃ wb, wb = boxed w x.p x.q x.r 11 m a b c l v := ⟨_, rfl⟩
  have hkb : Keeps [] w wb := by rw [hwb]; exact boxed_keeps ..
  have x0 : wb.cell? ⟨w.heap.size, 0, none⟩ = some (.pointer (some ⟨x.p, 0, none⟩)) := by rw [hwb]; exact boxed_pair _ _ _ _ _ _ _ _ _ _ _ 0 _ rfl
  have x2 : wb.cell? ⟨w.heap.size, 2, none⟩ = some (.pointer (some ⟨x.r, 0, none⟩)) := by rw [hwb]; exact boxed_pair _ _ _ _ _ _ _ _ _ _ _ 2 _ rfl
  have o0 : wb.cell? ⟨w.heap.size + 1, 0, none⟩ = some (.int .i64 11) := by rw [hwb]; exact boxed_op _ _ _ _ _ _ _ _ _ _ _ 0 _ rfl
  have o2 : wb.cell? ⟨w.heap.size + 1, 2, none⟩ = some (.int .i64 a) := by rw [hwb]; exact boxed_op _ _ _ _ _ _ _ _ _ _ _ 2 _ rfl
  have o3 : wb.cell? ⟨w.heap.size + 1, 3, none⟩ = some (.int .i64 b) := by rw [hwb]; exact boxed_op _ _ _ _ _ _ _ _ _ _ _ 3 _ rfl
  have hPb := hp.keeps hkb (own' := own) (fun _ _ e => e)
  have HP : Hid (Calls Tryz.prog 57 #[.pointer (some ⟨x.p, 0, none⟩)] wb fun e w' => e = .returned (.int .i64 (cntOf x.A.n x.A.o (Vof x.A.fs) : Int)) ∧ Keeps [] wb w') := ps_nodes hPb
  have HR : Hid (∀ w', Keeps [] wb w' → Calls Tryz.prog 58 #[.pointer (some ⟨x.r, 0, none⟩)] w' fun e w2 => e = .returned (.int .i64 (cntOf x.A.n x.A.o (Vof x.A.fs) : Int)) ∧ Keeps [] w' w2) := fun w' hk => rs_nodes hPb hA (hr.keeps hA (hkb.trans hk) (own' := own) (fun _ _ e => e))
  obtain ⟨s1, hs1⟩ : ∃ s1 : Int, s1 = (cntOf x.A.n x.A.o (Vof x.A.fs) : Int) := ⟨_, rfl⟩
  rw [← hs1] at HP HR
  clear hs1
  have e1 : (s1 == s1) = true := by simp
  obtain ⟨p, hp'⟩ : ∃ p, p = x.p := ⟨_, rfl⟩
  obtain ⟨q, hq'⟩ : ∃ q, q = x.q := ⟨_, rfl⟩
  obtain ⟨r, hr'⟩ : ∃ r, r = x.r := ⟨_, rfl⟩
  rw [← hp'] at HP x0 hwb ⊢
  rw [← hr'] at HR x2 hwb ⊢
  rw [← hq'] at hwb ⊢
  clear hA hp hq hr hPb hp' hq' hr'
  unfold Fits at ha hb
  show Calls Tryz.prog 19 #[.pointer (some ⟨W, 0, none⟩), .agg #[.pointer (some ⟨p, 0, none⟩), .pointer (some ⟨q, 0, none⟩), .pointer (some ⟨r, 0, none⟩)], .agg #[.int .i64 11, .int .i64 m, .int .i64 a, .int .i64 b, .int .i64 c, l, v]] w _
  unfold boxed opC ptr at hwb
  go_enter Tryz.func19, Tryz.ntmps19
  go_wp2_with fail
  rw [← hwb]
  clear hwb
  refine HP.out.mono ?_
  rintro e w1 ⟨rfl, hk1⟩
  have y2 := hk1.cell x2 (by simp)
  have z2 := hk1.cell o2 (by simp)
  have z3 := hk1.cell o3 (by simp)
  go_wp2_with fail
  refine (HR.out _ hk1).mono ?_
  rintro e w2 ⟨rfl, hk2⟩
  go_wp2_with fail
  go_ret
  exact ⟨rfl, (hkb.trans hk1).trans hk2⟩

set_option maxRecDepth 100000 in
set_option maxHeartbeats 1000000 in
theorem asks0 {p q r : Nat} {k m a b c : Int} {l v : Value} (hk : k ≤ 7) :
    Calls Tryz.prog 19 #[ptr W, .agg #[ptr p, ptr q, ptr r], opV k m a b c l v] w fun e w' => e = .returned (.bool true) ∧ Keeps [] w w' := by
  have e8 : (k == 8) = false := by simp; omega
  have e9 : (k == 9) = false := by simp; omega
  have e10 : (k == 10) = false := by simp; omega
  have e11 : (k == 11) = false := by simp; omega
  have e15 : (k == 15) = false := by simp; omega
  have e16 : (k == 16) = false := by simp; omega
  have e17 : (k == 17) = false := by simp; omega
  have hkb := boxed_keeps w p q r k m a b c l v
  unfold boxed opC ptr at hkb
  clear hk
  show Calls Tryz.prog 19 #[.pointer (some ⟨W, 0, none⟩), .agg #[.pointer (some ⟨p, 0, none⟩), .pointer (some ⟨q, 0, none⟩), .pointer (some ⟨r, 0, none⟩)], .agg #[.int .i64 k, .int .i64 m, .int .i64 a, .int .i64 b, .int .i64 c, l, v]] w _
  go_enter Tryz.func19, Tryz.ntmps19
  go_wp2_with fail
  go_ret
  exact ⟨rfl, hkb⟩
end

end Go.Proofs.YtmgjegokkbghlaaGreat
