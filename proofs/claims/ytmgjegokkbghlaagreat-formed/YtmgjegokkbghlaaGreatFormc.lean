/- The calls Restrict, Exists, Swap. -/
import Derived.Test.YtmgjegokkbghlaaGreatFormSw
namespace Go.Proofs.YtmgjegokkbghlaaGreat
open Go.RowKit Go.Maps Bdd
attribute [local go_sem ↓] Go.wp_at_zero Go.wp_at_succ

set_option maxRecDepth 100000 in
set_option maxHeartbeats 1000000 in
theorem restrict_call {w : World} {s hb t bn bm L nh sz : Nat} {od : Ord L} {lim given lb : Int} {V : Int → Option Fun} (h : St w s hb t bn bm od nh sz lim given V lb) {f i : Int} {v : Bool} {F : Fun} (hf : V f = some F) (h0 : 0 ≤ i) (h1 : i < L) (hlb : lb + 100000 ≤ 4611686018427387904) (hg1 : given + 1 ≤ 4611686018427387904) :
    Calls Tryz.prog 27 #[.pointer (some ⟨s, 0, none⟩), .int .i64 f, .int .i64 i, .bool v] w fun e w' => Held1 w s hb t bn bm od nh lim given V lb (fun a => F (setAt a i v)) e w' := by
  have hsz := h.szb
  obtain ⟨N, last, H, hst, k1, k2, k3, k4, k5, k6⟩ := h
  have hmf : ∀ (fn : Fn) (first cap : Array Value) (w : World), (Instr.makeFunc fn first cap).run Tryz.prog w = .ok (.func fn first cap) w := fun _ _ _ _ => rfl
  obtain ⟨f0, e0, e1⟩ := St.has k2 hf
  have hfit : Fits f := by have := hst.hr f f0 e0; unfold Fits; omega
  obtain ⟨W, hW⟩ : ∃ W, W = (((w.alloc (.cells #[.pointer (some ⟨s, 0, none⟩)] 36)).alloc (.cells #[.int .i64 i] 3)).alloc (.cells #[.bool v] 4)).alloc (.cells #[.int .i64 i] 3) := ⟨_, rfl⟩
  have hk : Keeps [] w W := by rw [hW]; exact ((((Keeps.refl _ _).alloc _).alloc _).alloc _).alloc _
  have hst' := hst.keeps hk
  have d1 : W.cell? ⟨w.heap.size, 0, none⟩ = some (.pointer (some ⟨s, 0, none⟩)) := by rw [hW]; exact (((((Keeps.refl [] _).alloc _).alloc _).alloc _).cell (cell_new w _ _ rfl rfl) (by simp))
  have d2 : W.cell? ⟨w.heap.size + 1, 0, none⟩ = some (.int .i64 i) := by rw [hW]; exact ((((Keeps.refl [] _).alloc _).alloc _).cell (cell_new (w.alloc _) _ _ (by simp) rfl) (by simp))
  have d3 : W.cell? ⟨w.heap.size + 1 + 1, 0, none⟩ = some (.bool v) := by rw [hW]; exact (((Keeps.refl [] _).alloc _).cell (cell_new ((w.alloc _).alloc _) _ _ (by simp) rfl) (by simp))
  have d4 : IntsIn W (w.heap.size + 1 + 1 + 1) 0 [i] := fun j hj => by simp at hj; subst hj; rw [hW]; exact cell_new _ _ _ (by simp) rfl
  have HV : Hid (∀ x, V x = (H x).map (FV N od)) := k2
  have HF : Hid (H f = some f0) := e0
  have HE : Hid (FV N od f0 = F) := e1
  have HW : Hid (W = (((w.alloc (.cells #[.pointer (some ⟨s, 0, none⟩)] 36)).alloc (.cells #[.int .i64 i] 3)).alloc (.cells #[.bool v] 4)).alloc (.cells #[.int .i64 i] 3)) := hW
  have ls : s < w.heap.size := cell_lt (p := ⟨s, 0, none⟩) hst.c0
  clear k2 hf e0 e1 hW
  go_enter Tryz.func27, Tryz.ntmps27
  go_wp2_with fail
  rw [← HW.out]
  refine (findWith_any (b := w.heap.size + 1 + 1 + 1) (o := 0) (n := 1) hst' hfit [i] (by simp) rfl d4).mono ?_
  rintro e w1 ⟨hk1, ⟨hno, _⟩ | ⟨f1, hf1, hh⟩⟩
  · rw [HF.out] at hno; cases hno
  · rw [HF.out] at hf1
    cases hf1
    rcases hh with ⟨_, rfl⟩ | ⟨hbad, _⟩
    · have hst1 := hst'.keeps hk1
      have c1 := hk1.cell d1 (by simp)
      have c2 := hk1.cell d2 (by simp)
      have c3 := hk1.cell d3 (by simp)
      have l3 : w.heap.size + 1 + 1 < w1.heap.size := cell_lt (p := ⟨w.heap.size + 1 + 1, 0, none⟩) c3
      have l1 : w.heap.size < w1.heap.size := by omega
      have l2 : w.heap.size + 1 < w1.heap.size := by omega
      go_wp2_with fail
      have hk2 : Keeps [] w1 (w1.alloc (.cells #[.int .i64 f0] 95)) := (Keeps.refl _ _).alloc _
      have hst2 := hst1.keeps hk2
      refine (hold_Restrict hst2 k1 HV.out k3 k4 k5 k6 hg1 _ _ _ _ (res1_any (c1 := w.heap.size) (c2 := w1.heap.size) (c3 := w.heap.size + 1) (c4 := w.heap.size + 1 + 1) (f := f0) (i := i) (v := v) (hst2.keeps ((Keeps.refl _ _).drew)) (hst.ok f f0 HF.out) h0 h1 (by omega) hsz (hk2.cell c1 (by simp)) (by simp) (hk2.cell c2 (by simp)) (hk2.cell c3 (by simp)))).mono ?_
      intro e w' hh
      rw [HE.out] at hh
      have hh' := hh.from ((hk.trans hk1).trans hk2)
      obtain ⟨x, y, rfl⟩ := hh.ends
      clear hh
      go_wp2_with fail
      go_ret2
      exact hh'
    · exact absurd (fun k hk => by simp at hk; subst hk; simpa using ⟨h0, h1⟩) hbad

set_option maxRecDepth 100000 in
set_option maxHeartbeats 1000000 in
theorem swap_call {w : World} {s hb t bn bm L nh sz : Nat} {od : Ord L} {lim given lb : Int} {V : Int → Option Fun} (h : St w s hb t bn bm od nh sz lim given V lb) {f i j : Int} {F : Fun} (hf : V f = some F) (h0 : 0 ≤ i) (h1 : i < L) (h2 : 0 ≤ j) (h3 : j < L) (hlb : lb + 100000 ≤ 4611686018427387904) (hg1 : given + 1 ≤ 4611686018427387904) :
    Calls Tryz.prog 31 #[.pointer (some ⟨s, 0, none⟩), .int .i64 f, .int .i64 i, .int .i64 j] w fun e w' => Held1 w s hb t bn bm od nh lim given V lb (fun a => F (swapA a i j)) e w' := by
  have hsz := h.szb
  obtain ⟨N, last, H, hst, k1, k2, k3, k4, k5, k6⟩ := h
  have hmf : ∀ (fn : Fn) (first cap : Array Value) (w : World), (Instr.makeFunc fn first cap).run Tryz.prog w = .ok (.func fn first cap) w := fun _ _ _ _ => rfl
  obtain ⟨f0, e0, e1⟩ := St.has k2 hf
  have hfit : Fits f := by have := hst.hr f f0 e0; unfold Fits; omega
  obtain ⟨W, hW⟩ : ∃ W, W = (((w.alloc (.cells #[.pointer (some ⟨s, 0, none⟩)] 36)).alloc (.cells #[.int .i64 i] 3)).alloc (.cells #[.int .i64 j] 3)).alloc (.cells #[.int .i64 i, .int .i64 j] 3) := ⟨_, rfl⟩
  have hk : Keeps [] w W := by rw [hW]; exact ((((Keeps.refl _ _).alloc _).alloc _).alloc _).alloc _
  have hst' := hst.keeps hk
  have d1 : W.cell? ⟨w.heap.size, 0, none⟩ = some (.pointer (some ⟨s, 0, none⟩)) := by rw [hW]; exact (((((Keeps.refl [] _).alloc _).alloc _).alloc _).cell (cell_new w _ _ rfl rfl) (by simp))
  have d2 : W.cell? ⟨w.heap.size + 1, 0, none⟩ = some (.int .i64 i) := by rw [hW]; exact ((((Keeps.refl [] _).alloc _).alloc _).cell (cell_new (w.alloc _) _ _ (by simp) rfl) (by simp))
  have d3 : W.cell? ⟨w.heap.size + 1 + 1, 0, none⟩ = some (.int .i64 j) := by rw [hW]; exact (((Keeps.refl [] _).alloc _).cell (cell_new ((w.alloc _).alloc _) _ _ (by simp) rfl) (by simp))
  have d4 : IntsIn W (w.heap.size + 1 + 1 + 1) 0 [i, j] := fun k hk => by
    have : k = 0 ∨ k = 1 := by simp at hk; omega
    rw [hW]
    rcases this with rfl | rfl
    · exact cell_new _ _ _ (by simp) rfl
    · exact cell_new _ _ _ (by simp) rfl
  have HV : Hid (∀ x, V x = (H x).map (FV N od)) := k2
  have HF : Hid (H f = some f0) := e0
  have HE : Hid (FV N od f0 = F) := e1
  have HW : Hid (W = (((w.alloc (.cells #[.pointer (some ⟨s, 0, none⟩)] 36)).alloc (.cells #[.int .i64 i] 3)).alloc (.cells #[.int .i64 j] 3)).alloc (.cells #[.int .i64 i, .int .i64 j] 3)) := hW
  have ls : s < w.heap.size := cell_lt (p := ⟨s, 0, none⟩) hst.c0
  clear k2 hf e0 e1 hW
  go_enter Tryz.func31, Tryz.ntmps31
  go_wp2_with fail
  rw [← HW.out]
  refine (findWith_any (b := w.heap.size + 1 + 1 + 1) (o := 0) (n := 2) hst' hfit [i, j] (by simp) rfl d4).mono ?_
  rintro e w1 ⟨hk1, ⟨hno, _⟩ | ⟨f1, hf1, hh⟩⟩
  · rw [HF.out] at hno; cases hno
  · rw [HF.out] at hf1
    cases hf1
    rcases hh with ⟨_, rfl⟩ | ⟨hbad, _⟩
    · have hst1 := hst'.keeps hk1
      have c1 := hk1.cell d1 (by simp)
      have c2 := hk1.cell d2 (by simp)
      have c3 := hk1.cell d3 (by simp)
      have l3 : w.heap.size + 1 + 1 < w1.heap.size := cell_lt (p := ⟨w.heap.size + 1 + 1, 0, none⟩) c3
      have l1 : w.heap.size < w1.heap.size := by omega
      have l2 : w.heap.size + 1 < w1.heap.size := by omega
      go_wp2_with fail
      have hk2 : Keeps [] w1 (w1.alloc (.cells #[.int .i64 f0] 95)) := (Keeps.refl _ _).alloc _
      have hst2 := hst1.keeps hk2
      refine (hold_Swap hst2 k1 HV.out k3 k4 k5 k6 hg1 _ _ _ _ (swa1_any (c1 := w.heap.size) (c2 := w1.heap.size) (c3 := w.heap.size + 1) (c4 := w.heap.size + 1 + 1) (f := f0) (i := i) (j := j) (hst2.keeps ((Keeps.refl _ _).drew)) (hst.ok f f0 HF.out) h0 h1 h2 h3 (by omega) hsz (hk2.cell c1 (by simp)) (by simp) (hk2.cell c2 (by simp)) (hk2.cell c3 (by simp)))).mono ?_
      intro e w' hh
      rw [HE.out] at hh
      have hh' := hh.from ((hk.trans hk1).trans hk2)
      obtain ⟨x, y, rfl⟩ := hh.ends
      clear hh
      go_wp2_with fail
      go_ret2
      exact hh'
    · refine absurd (fun k hk => ?_) hbad
      have : k = 0 ∨ k = 1 := by simp at hk; omega
      rcases this with rfl | rfl
      · simpa using ⟨h0, h1⟩
      · simpa using ⟨h2, h3⟩

end Go.Proofs.YtmgjegokkbghlaaGreat
