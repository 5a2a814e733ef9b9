/- A table on the way from one order to the next: put, join, level, branches, cross. -/
import Derived.Test.YtbfmekddfibciaaExchA
namespace Go.Proofs.Ytbfmekddfibciaa
open Go.RowKit Go.Maps Bdd
attribute [local go_sem ↓] Go.wp_at_zero Go.wp_at_succ

/-- what is found, over what was there -/
def ov (A N : Tab) : Tab := fun f => match A f with | some m => some m | none => N f
theorem ov_some {A N : Tab} {f : Int} {m : Nd} (h : A f = some m) : ov A N f = some m := by simp [ov, h]
theorem ov_none {A N : Tab} {f : Int} (h : A f = none) : ov A N f = N f := by simp [ov, h]
theorem ov_upd (A N : Tab) (f : Int) (m : Nd) : ov (upd A f m) N = upd (ov A N) f m := by
  funext g
  by_cases e : g = f
  · subst e; rw [upd_same]; exact ov_some (upd_same _ _ _)
  · rw [upd_other _ e]; simp only [ov, upd_other _ e]

/-- A TABLE ON THE WAY. -/
structure TabX (w : World) (t bn bm n1 n2 : Nat) (A N : Tab) (lastc : Int) : Prop where
  c0 : w.cell? ⟨t, 0, none⟩ = some (.map (some bn))
  c1 : w.cell? ⟨t, 1, none⟩ = some (.map (some bm))
  c2 : w.cell? ⟨t, 2, none⟩ = some (.int .i64 lastc)
  f2 : w.frozen? ⟨t, 2, none⟩ = false
  names : MapIs w Try.prog 115 bn n1 (namesG A)
  nodes : MapIs w Try.prog 69 bm n2 (nodesG (ov A N))
  ne : bn ≠ bm
  u : ∀ f g m, A f = some m → A g = some m → f = g
  big : lastc ≤ 4611686018427387904
  one : 1 ≤ lastc

section
variable {w w' : World} {t bn bm n1 n2 : Nat} {A N : Tab} {lastc : Int}

theorem TabX.keeps {S : List Nat} (h : TabX w t bn bm n1 n2 A N lastc) (hk : Keeps S w w') (h1 : t ∉ S) (h2 : bn ∉ S) (h3 : bm ∉ S) : TabX w' t bn bm n1 n2 A N lastc :=
  ⟨hk.cell h.c0 h1, hk.cell h.c1 h1, hk.cell h.c2 h1, (hk.frozen (cell_lt h.c2) h1).trans h.f2, h.names.keeps hk h2, h.nodes.keeps hk h3, h.ne, h.u, h.big, h.one⟩
theorem TabX.tn (h : TabX w t bn bm n1 n2 A N lastc) : t ∉ [bn, bm] := by
  have h1 := h.names.ne_cell h.c0
  have h2 := h.nodes.ne_cell h.c0
  simp only at h1 h2
  simp; exact ⟨h1, h2⟩

theorem names_put (hu : ∀ f g m, A f = some m → A g = some m → f = g) {f : Int} {m : Nd} (hA : A f = none) (hfr : ∀ g, A g ≠ some m) (v : Value) : setG (namesG A) (nodeV m) (some (.int .i64 f)) v = namesG (upd A f m) v := by
  have hu' := inj_upd (f := f) hu hfr
  by_cases e : v = nodeV m
  · subst e
    rw [setG_same]
    exact (namesG_inj hu' (upd_same A f m)).symm
  · rw [setG_other _ _ e]
    by_cases hex : ∃ g n, A g = some n ∧ v = nodeV n
    · obtain ⟨g, n, hn, rfl⟩ := hex
      rw [namesG_inj hu hn, namesG_inj hu' (sub_new hA g n hn)]
    · have hex' : ¬ ∃ g n, upd A f m g = some n ∧ v = nodeV n := by
        rintro ⟨g, n, hn, rfl⟩
        by_cases ef : g = f
        · subst ef; rw [upd_same] at hn; cases hn; exact e rfl
        · rw [upd_other _ ef] at hn; exact hex ⟨g, n, hn, rfl⟩
      unfold namesG
      rw [dif_neg hex, dif_neg hex']
theorem nodes_put (f : Int) (m : Nd) (v : Value) : setG (nodesG (ov A N)) (.int .i64 f) (some (nodeV m)) v = nodesG (ov (upd A f m) N) v := by
  rw [ov_upd]
  by_cases e : v = .int .i64 f
  · subst e; rw [setG_same]; simp [nodesG, upd_same]
  · rw [setG_other _ _ e]
    unfold nodesG
    split
    · rename_i x
      rw [upd_other _ (fun ef => e (by rw [ef]))]
    · rfl

theorem put_x (h : TabX w t bn bm n1 n2 A N lastc) {f : Int} {m n : Nd} (hA : A f = none) (hN : N f = some n) (hfr : ∀ g, A g ≠ some m) (hf : Fits f) (hl : Fits m.lv) (hx : Fits m.lo) (hy : Fits m.hi) (hn1 : n1 < maxLen) (hn2 : n2 < maxLen) :
    Calls Try.prog 81 #[.pointer (some ⟨t, 0, none⟩), .int .i64 f, trip m.lv m.lo m.hi] w fun e w' => e = .returned (.tuple #[]) ∧ (∃ n1', n1' ≤ n1 + 1 ∧ TabX w' t bn bm n1' n2 (upd A f m) N lastc) ∧ Keeps [bn, bm] w w' := by
  refine (put_any h.c0 h.c1 h.names h.nodes h.ne hf hl hx hy hn1 hn2).mono ?_
  rintro e w' ⟨rfl, r1, r2, hk⟩
  rw [upSz_old (by simp [nodesG, ov_none hA, hN])] at r2
  exact ⟨rfl, ⟨_, upSz_le _ _ _, hk.cell h.c0 h.tn, hk.cell h.c1 h.tn, hk.cell h.c2 h.tn, (hk.frozen (p := ⟨t, 2, none⟩) (cell_lt h.c2) h.tn).trans h.f2, r1.congr (fun v _ _ => names_put h.u hA hfr v), r2.congr (fun v _ _ => nodes_put f m v), h.ne, inj_upd h.u hfr, h.big, h.one⟩, hk⟩

set_option maxRecDepth 100000 in
set_option maxHeartbeats 400000 in
theorem joinX_known {G : Value → Option Value} (c0 : w.cell? ⟨t, 0, none⟩ = some (.map (some bn))) (hm : MapIs w Try.prog 115 bn n1 G) {f l x y : Int} (hG : G (trip l x y) = some (.int .i64 f)) (hl : Fits l) (hx : Fits x) (hy : Fits y) (hne : x ≠ y) :
    Calls Try.prog 74 #[.pointer (some ⟨t, 0, none⟩), trip l x y] w fun e w' => e = .returned (.int .i64 f) ∧ Keeps [] w w' := by
  obtain ⟨kl, hkey⟩ := key130 hl hx hy
  have hrun : ∀ (o : Obj) (q : Nat), (Instr.lookup 109 (.map (some bn)) (.agg #[.int .i64 l, .int .i64 x, .int .i64 y]) true).run Try.prog ((w.alloc o).drewN q) = .ok (.tuple #[.int .i64 f, .bool true]) ((w.alloc o).drewN q) := by
    intro o q
    have := (((hm.alloc o).drewN q).look lawNode Try.underlying109 (zeroFn _) hkey).1
    rw [hG] at this
    exact this
  have hb : (x == y) = false := by simp [hne]
  have htn : t < w.heap.size := cell_lt c0
  clear hG hkey
  unfold trip
  go_enter Try.func74, Try.ntmps74
  go_wp2
  go_quiet (fail)
  go_wp2
  go_ret
  exact ⟨rfl, ((Keeps.refl _ _).alloc _).drewN _⟩

set_option maxRecDepth 100000 in
set_option maxHeartbeats 400000 in
theorem joinX_new {G1 G2 : Value → Option Value} (c0 : w.cell? ⟨t, 0, none⟩ = some (.map (some bn))) (c1 : w.cell? ⟨t, 1, none⟩ = some (.map (some bm))) (c2 : w.cell? ⟨t, 2, none⟩ = some (.int .i64 lastc)) (f2 : w.frozen? ⟨t, 2, none⟩ = false) (h1 : MapIs w Try.prog 115 bn n1 G1) (h2 : MapIs w Try.prog 69 bm n2 G2) (hbb : bn ≠ bm)
    {l x y : Int} (hG : G1 (trip l x y) = none) (hG2 : G2 (.int .i64 (lastc + 1)) = none) (hl : Fits l) (hx : Fits x) (hy : Fits y) (hne : x ≠ y) (hone : 1 ≤ lastc) (hlast : lastc + 1 ≤ 4611686018427387904) (hn1 : n1 < maxLen) (hn2 : n2 < maxLen) :
    Calls Try.prog 74 #[.pointer (some ⟨t, 0, none⟩), trip l x y] w fun e w' => e = .returned (.int .i64 (lastc + 1)) ∧ w'.cell? ⟨t, 2, none⟩ = some (.int .i64 (lastc + 1)) ∧ w'.cell? ⟨t, 0, none⟩ = some (.map (some bn)) ∧ w'.cell? ⟨t, 1, none⟩ = some (.map (some bm)) ∧ w'.frozen? ⟨t, 2, none⟩ = false ∧
      MapIs w' Try.prog 115 bn (n1 + 1) (setG G1 (trip l x y) (some (.int .i64 (lastc + 1)))) ∧ MapIs w' Try.prog 69 bm (n2 + 1) (setG G2 (.int .i64 (lastc + 1)) (some (trip l x y))) ∧ Keeps [t, bn, bm] w w' := by
  obtain ⟨kl, hkey⟩ := key130 hl hx hy
  have hrun : ∀ (o : Obj) (q : Nat), (Instr.lookup 109 (.map (some bn)) (.agg #[.int .i64 l, .int .i64 x, .int .i64 y]) true).run Try.prog ((w.alloc o).drewN q) = .ok (.tuple #[.int .i64 0, .bool false]) ((w.alloc o).drewN q) := by
    intro o q
    have := (((h1.alloc o).drewN q).look lawNode Try.underlying109 (zeroFn _) hkey).1
    rw [hG] at this
    exact this
  have hb : (x == y) = false := by simp [hne]
  have htn : t < w.heap.size := cell_lt c0
  have ntt : ¬ w.heap.size = t := by omega
  have HG : Hid (G1 (trip l x y) = none) := hG
  have HG2 : Hid (G2 (.int .i64 (lastc + 1)) = none) := hG2
  obtain ⟨T, hT⟩ : ∃ T, T = trip l x y := ⟨_, rfl⟩
  have HTT : Hid (T = trip l x y) := hT
  rw [← hT]
  have e0 : trip l x y = .agg #[.int .i64 l, .int .i64 x, .int .i64 y] := rfl
  clear hG hG2 hkey
  rw [show (#[Value.pointer (some ⟨t, 0, none⟩), T] : Array Value) = #[.pointer (some ⟨t, 0, none⟩), .agg #[.int .i64 l, .int .i64 x, .int .i64 y]] from by rw [hT]; rfl]
  clear hT e0
  go_enter Try.func74, Try.ntmps74
  go_wp2
  go_quiet (fail)
  go_wp2
  obtain ⟨W, hW⟩ : ∃ W, W = (((w.alloc (Obj.cells #[Value.int IntKind.i64 l, Value.int IntKind.i64 x, Value.int IntKind.i64 y] 115)).drewN nq).setCell { block := t, off := 2 } (Value.int IntKind.i64 (lastc + 1))) := ⟨_, rfl⟩
  rw [← hW]
  have hK : Keeps [t] w W := by rw [hW]; exact (((Keeps.refl _ _).alloc _).drewN _).setCell _ (Or.inl (by simp)) _
  have m1 := h1.ne_cell c0
  have m2 := h2.ne_cell c0
  simp only at m1 m2
  have hnW := h1.keeps hK (by simp; exact fun e => m1 e.symm)
  have hmW := h2.keeps hK (by simp; exact fun e => m2 e.symm)
  have k0 : W.cell? ⟨t, 0, none⟩ = some (.map (some bn)) := by rw [hW, World.cell?_setCell_other _ _ _ _ (by simp)]; show (w.alloc _).cell? _ = _; rw [World.cell?_alloc_past _ _ _ htn]; exact c0
  have k1 : W.cell? ⟨t, 1, none⟩ = some (.map (some bm)) := by rw [hW, World.cell?_setCell_other _ _ _ _ (by simp)]; show (w.alloc _).cell? _ = _; rw [World.cell?_alloc_past _ _ _ htn]; exact c1
  have k2 : W.cell? ⟨t, 2, none⟩ = some (.int .i64 (lastc + 1)) := by rw [hW]; refine World.cell?_setCell_same _ _ _ (u := .int .i64 lastc) ?_; show (w.alloc _).cell? _ = _; rw [World.cell?_alloc_past _ _ _ htn]; exact c2
  have b0 : W.cell? ⟨w.heap.size, 0, none⟩ = some (.int .i64 l) := by rw [hW, World.cell?_setCell_other _ _ _ _ (by first | (simp; done) | (simp; omega))]; show (w.alloc _).cell? _ = _; simp
  have b1 : W.cell? ⟨w.heap.size, 1, none⟩ = some (.int .i64 x) := by rw [hW, World.cell?_setCell_other _ _ _ _ (by first | (simp; done) | (simp; omega))]; show (w.alloc _).cell? _ = _; simp
  have b2 : W.cell? ⟨w.heap.size, 2, none⟩ = some (.int .i64 y) := by rw [hW, World.cell?_setCell_other _ _ _ _ (by first | (simp; done) | (simp; omega))]; show (w.alloc _).cell? _ = _; simp
  have kf : W.frozen? ⟨t, 2, none⟩ = false := by rw [hW, World.frozen?_setCell]; show (w.alloc _).frozen? _ = _; rw [World.frozen?_alloc_old _ _ _ (by simp; omega)]; exact f2
  clear hW
  have ntn : t ∉ [bn, bm] := by simp; exact ⟨m1, m2⟩
  have m3 := hnW.ne_cell b0
  have m4 := hmW.ne_cell b0
  simp only at m3 m4
  have nbn : w.heap.size ∉ [bn, bm] := by simp; exact ⟨m3, m4⟩
  go_region_held3 (fun w' => w'.cell? ⟨t, 0, none⟩ = some (.map (some bn)) ∧ w'.cell? ⟨t, 1, none⟩ = some (.map (some bm)) ∧ w'.cell? ⟨t, 2, none⟩ = some (.int .i64 (lastc + 1)) ∧ w'.cell? ⟨w.heap.size, 0, none⟩ = some (.int .i64 l) ∧ w'.cell? ⟨w.heap.size, 1, none⟩ = some (.int .i64 x) ∧ w'.cell? ⟨w.heap.size, 2, none⟩ = some (.int .i64 y))
    (first | exact ⟨k0, k1, k2, b0, b1, b2⟩ | exact ⟨hkp.cell k0 ntn, hkp.cell k1 ntn, hkp.cell k2 ntn, hkp.cell b0 nbn, hkp.cell b1 nbn, hkp.cell b2 nbn⟩ | assumption)
    (first
      | (go_at_call 81; refine (put_any (t := t) (bn := bn) (bm := bm) (l := l) (x := x) (y := y) (f := lastc + 1) (w := W.drew) k0 k1 hnW hmW hbb (by unfold Fits; omega) hl hx hy (by omega) (by omega)).mono ?_; rintro e w2 ⟨rfl, hm1, hm2, hkp⟩))
  go_wp2_with fail
  go_ret
  rw [upSz_new HG.out] at hm1
  rw [upSz_new HG2.out] at hm2
  rw [HTT.out]
  exact ⟨rfl, hkp.cell k2 ntn, hkp.cell k0 ntn, hkp.cell k1 ntn, (hkp.frozen (p := ⟨t, 2, none⟩) (cell_lt (w := W) k2) ntn).trans kf, hm1, hm2, (hK.mono (by simp)).trans (((Keeps.refl _ _).drew).trans (hkp.mono (by simp)))⟩

end
end Go.Proofs.Ytbfmekddfibciaa
