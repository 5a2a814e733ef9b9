/- The walk of join. -/
import Derived.Test.YtmgjegokkbghlaaGreatDoorTab
import Derived.RegionTactic
import Derived.ChangeAlike
import Derived.Deep.RegionHeld3
namespace Go.Proofs.YtmgjegokkbghlaaGreatDoor
open Go.RowKit Go.Maps Bdd

theorem MapIs.drewN {P : Program} {k : TypeId} {w : World} {b n : Nat} {G : Value → Option Value} (h : MapIs w P k b n G) (q : Nat) : MapIs (w.drewN q) P k b n G := h

set_option maxRecDepth 100000 in
set_option maxHeartbeats 400000 in
theorem join_eq {w : World} {t : Nat} (l x : Int) :
    Calls Tryz.prog 67 #[.pointer (some ⟨t, 0, none⟩), trip l x x] w fun e w' => e = .returned (.int .i64 x) ∧ Keeps [] w w' := by
  unfold trip
  go_enter Tryz.func67, Tryz.ntmps67
  go_wp2
  go_ret
  exact ⟨rfl, (Keeps.refl _ _).alloc _⟩

set_option maxRecDepth 100000 in
set_option maxHeartbeats 400000 in
theorem join_known {w : World} {t bn bm sz : Nat} {N : Tab} {top last : Int} (h : TabAt w t bn bm sz N top last) {f l x y : Int} (hN : N f = some ⟨l, x, y⟩) (hl : Fits l) (hx : Fits x) (hy : Fits y) (hne : x ≠ y) :
    Calls Tryz.prog 67 #[.pointer (some ⟨t, 0, none⟩), trip l x y] w fun e w' => e = .returned (.int .i64 f) ∧ Keeps [] w w' := by
  have c0 := h.c0
  obtain ⟨kl, hkey⟩ := key130 hl hx hy
  have hG : namesG N (trip l x y) = some (.int .i64 f) := namesG_some h.wf hN
  have hrun : ∀ (o : Obj) (q : Nat), (Instr.lookup 150 (.map (some bn)) (.agg #[.int .i64 l, .int .i64 x, .int .i64 y]) true).run Tryz.prog ((w.alloc o).drewN q) = .ok (.tuple #[.int .i64 f, .bool true]) ((w.alloc o).drewN q) := by
    intro o q
    have := (((h.names.alloc o).drewN q).look lawNode Tryz.underlying150 (zeroFn _) hkey).1
    rw [hG] at this
    exact this
  have hb : (x == y) = false := by simp [hne]
  have htn : t < w.heap.size := cell_lt c0
  clear hG hkey hN
  unfold trip
  go_enter Tryz.func67, Tryz.ntmps67
  go_wp2
  go_quiet (fail)
  go_wp2
  go_ret
  exact ⟨rfl, ((Keeps.refl _ _).alloc _).drewN _⟩

theorem grown_frozen {w w' : World} {row : Option Nat} (hg : w.grownBy w' row) {p : Addr} (hlt : p.block < w.heap.size) (hne : some p.block ≠ row) : w'.frozen? p = w.frozen? p := World.frozen?_of_block (w := w) (hg.block p.block hlt hne)
theorem join_mid {w W : World} {t bn bm sz q : Nat} {N : Tab} {top last : Int} (h : TabAt w t bn bm sz N top last) {l x y : Int}
    (hW : W = (((w.alloc (Obj.cells #[Value.int IntKind.i64 l, Value.int IntKind.i64 x, Value.int IntKind.i64 y] 157)).drewN q).setCell { block := t, off := 2 } (Value.int IntKind.i64 (last + 1)))) :
    W.cell? ⟨t, 0, none⟩ = some (.map (some bn)) ∧ W.cell? ⟨t, 1, none⟩ = some (.map (some bm)) ∧ W.cell? ⟨t, 2, none⟩ = some (.int .i64 (last + 1)) ∧ W.cell? ⟨w.heap.size, 0, none⟩ = some (.int .i64 l) ∧ W.cell? ⟨w.heap.size, 1, none⟩ = some (.int .i64 x) ∧ W.cell? ⟨w.heap.size, 2, none⟩ = some (.int .i64 y) ∧
      MapIs W Tryz.prog 157 bn sz (namesG N) ∧ MapIs W Tryz.prog 88 bm sz (nodesG N) ∧ Keeps [t] w W ∧ W.frozen? ⟨t, 2, none⟩ = false := by
  have htn : t < w.heap.size := cell_lt h.c0
  have hK : Keeps [t] w W := by subst hW; exact (((Keeps.refl _ _).alloc _).drewN _).setCell _ (Or.inl (by simp)) _
  have hne1 := h.names.ne_cell h.c0
  have hne2 := h.nodes.ne_cell h.c0
  have hnt : ¬ w.heap.size = t := by omega
  refine ⟨?_, ?_, ?_, ?_, ?_, ?_, h.names.keeps hK (by simp; exact fun e => hne1 e.symm), h.nodes.keeps hK (by simp; exact fun e => hne2 e.symm), hK, ?_⟩
  · subst hW; rw [World.cell?_setCell_other _ _ _ _ (by simp)]; show (w.alloc _).cell? _ = _; rw [World.cell?_alloc_past _ _ _ htn]; exact h.c0
  · subst hW; rw [World.cell?_setCell_other _ _ _ _ (by simp)]; show (w.alloc _).cell? _ = _; rw [World.cell?_alloc_past _ _ _ htn]; exact h.c1
  · subst hW; refine World.cell?_setCell_same _ _ _ (u := .int .i64 last) ?_; show (w.alloc _).cell? _ = _; rw [World.cell?_alloc_past _ _ _ htn]; exact h.c2
  · subst hW; rw [World.cell?_setCell_other _ _ _ _ (by first | (simp; done) | (simp; omega))]; show (w.alloc _).cell? _ = _; simp
  · subst hW; rw [World.cell?_setCell_other _ _ _ _ (by first | (simp; done) | (simp; omega))]; show (w.alloc _).cell? _ = _; simp
  · subst hW; rw [World.cell?_setCell_other _ _ _ _ (by first | (simp; done) | (simp; omega))]; show (w.alloc _).cell? _ = _; simp
  · subst hW; rw [World.frozen?_setCell]; show (w.alloc _).frozen? _ = _; rw [World.frozen?_alloc_old _ _ _ (by simp; omega)]; exact h.f2

theorem names_upd {N : Tab} {top last : Int} (h : Wf N top last) {l x y : Int} (hw : Wf (upd N (last + 1) ⟨l, x, y⟩) top (last + 1)) (v : Value) :
    setG (namesG N) (trip l x y) (some (.int .i64 (last + 1))) v = namesG (upd N (last + 1) ⟨l, x, y⟩) v := by
  by_cases e : v = trip l x y
  · subst e
    rw [setG_same]
    exact (namesG_some hw (upd_same N _ _)).symm
  · rw [setG_other _ _ e]
    by_cases hex : ∃ f n, N f = some n ∧ v = nodeV n
    · obtain ⟨f, n, hn, rfl⟩ := hex
      rw [namesG_some h hn, namesG_some hw (sub_upd h _ f n hn)]
    · have hex' : ¬ ∃ f n, upd N (last + 1) ⟨l, x, y⟩ f = some n ∧ v = nodeV n := by
        rintro ⟨f, n, hn, rfl⟩
        by_cases ef : f = last + 1
        · subst ef; rw [upd_same] at hn; cases hn; exact e rfl
        · rw [upd_other _ ef] at hn; exact hex ⟨f, n, hn, rfl⟩
      unfold namesG
      rw [dif_neg hex, dif_neg hex']
theorem nodes_upd {N : Tab} {last : Int} {n : Nd} (v : Value) : setG (nodesG N) (.int .i64 (last + 1)) (some (nodeV n)) v = nodesG (upd N (last + 1) n) v := by
  by_cases e : v = .int .i64 (last + 1)
  · subst e; rw [setG_same]; simp [nodesG, upd_same]
  · rw [setG_other _ _ e]
    unfold nodesG
    split
    · rename_i f
      rw [upd_other _ (fun ef => e (by rw [ef]))]
    · rfl

/-- the size of a map behind a key more -/
def upSz (G : Value → Option Value) (key : Value) (n : Nat) : Nat := if (G key).isSome then n else n + 1
theorem upSz_old {G : Value → Option Value} {key : Value} {n : Nat} (h : (G key).isSome = true) : upSz G key n = n := by simp [upSz, h]
theorem upSz_new {G : Value → Option Value} {key : Value} {n : Nat} (h : G key = none) : upSz G key n = n + 1 := by simp [upSz, h]
theorem upSz_le (G : Value → Option Value) (key : Value) (n : Nat) : upSz G key n ≤ n + 1 := by unfold upSz; split <;> omega

set_option maxRecDepth 100000 in
set_option maxHeartbeats 400000 in
/-- put, whatever the two maps hold -/
theorem put_any {w : World} {t bn bm n1 n2 : Nat} {G1 G2 : Value → Option Value} (c0 : w.cell? ⟨t, 0, none⟩ = some (.map (some bn))) (c1 : w.cell? ⟨t, 1, none⟩ = some (.map (some bm))) (h1 : MapIs w Tryz.prog 157 bn n1 G1) (h2 : MapIs w Tryz.prog 88 bm n2 G2) (hne : bn ≠ bm)
    {f l x y : Int} (hf : Fits f) (hl : Fits l) (hx : Fits x) (hy : Fits y) (hn1 : n1 < maxLen) (hn2 : n2 < maxLen) :
    Calls Tryz.prog 131 #[.pointer (some ⟨t, 0, none⟩), .int .i64 f, trip l x y] w fun e w' => e = .returned (.tuple #[]) ∧ MapIs w' Tryz.prog 157 bn (upSz G1 (trip l x y) n1) (setG G1 (trip l x y) (some (.int .i64 f))) ∧
      MapIs w' Tryz.prog 88 bm (upSz G2 (.int .i64 f) n2) (setG G2 (.int .i64 f) (some (trip l x y))) ∧ Keeps [bn, bm] w w' := by
  obtain ⟨kl, hkey⟩ := key130 hl hx hy
  have l1 := h1.ne_cell c0
  have l2 := h2.ne_cell c0
  simp only at l1 l2
  have htn : t < w.heap.size := cell_lt c0
  obtain ⟨W, hW⟩ : ∃ W, W = w.alloc (.cells #[.int .i64 l, .int .i64 x, .int .i64 y] 157) := ⟨_, rfl⟩
  have hkW : Keeps [] w W := by rw [hW]; exact (Keeps.refl _ _).alloc _
  have k0 := hkW.cell c0 (by simp)
  have k1 := hkW.cell c1 (by simp)
  have b0 : W.cell? ⟨w.heap.size, 0, none⟩ = some (.int .i64 l) := by rw [hW]; simp
  have b1 : W.cell? ⟨w.heap.size, 1, none⟩ = some (.int .i64 x) := by rw [hW]; simp
  have b2 : W.cell? ⟨w.heap.size, 2, none⟩ = some (.int .i64 y) := by rw [hW]; simp
  have hnW := h1.keeps hkW (by simp)
  have hmW := h2.keeps hkW (by simp)
  obtain ⟨w1, hr1, hm1, hg1⟩ := hnW.drew.update lawNode Tryz.underlying150 hn1 hkey (.int .i64 f)
  have nbn := hnW.ne_cell b0
  have nbm := hmW.ne_cell b0
  simp only at nbn nbm
  have k0' := hg1.cell (a := ⟨t, 0, none⟩) k0 (by simp [l1])
  have k1' := hg1.cell (a := ⟨t, 1, none⟩) k1 (by simp [l1])
  have b0' := hg1.cell (a := ⟨w.heap.size, 0, none⟩) b0 (by simp [nbn])
  have b1' := hg1.cell (a := ⟨w.heap.size, 1, none⟩) b1 (by simp [nbn])
  have b2' := hg1.cell (a := ⟨w.heap.size, 2, none⟩) b2 (by simp [nbn])
  have hmW1 := hmW.drew.grown hg1 (by simp; exact fun e => hne e.symm)
  obtain ⟨w2, hr2, hm2, hg2⟩ := hmW1.drew.update lawFn Tryz.underlying151 hn2 (keyFn hf) (trip l x y)
  have hm1' := hm1.drew.grown hg2 (by simp; exact hne)
  have hK : Keeps [bn, bm] w w2 := ((((hkW.mono (by simp)).drew).grown hg1 (by simp)).drew).grown hg2 (by simp)
  unfold trip at hr1 hr2
  have Hm1 : Hid (MapIs w2 Tryz.prog 157 bn (upSz G1 (trip l x y) n1) (setG G1 (trip l x y) (some (.int .i64 f)))) := hm1'
  have Hm2 : Hid (MapIs w2 Tryz.prog 88 bm (upSz G2 (.int .i64 f) n2) (setG G2 (.int .i64 f) (some (trip l x y)))) := hm2
  clear hm1 hm1' hm2 hkey
  subst hW
  unfold trip
  go_enter Tryz.func131, Tryz.ntmps131
  go_wp2_with fail
  go_region
  clear hr1
  go_wp2_with fail
  go_region
  go_wp2_with fail
  go_end0
  exact ⟨rfl, Hm1.out, Hm2.out, hK⟩

set_option maxRecDepth 100000 in
set_option maxHeartbeats 400000 in
theorem join_new {w : World} {t bn bm sz : Nat} {N : Tab} {top last : Int} (h : TabAt w t bn bm sz N top last) {l x y : Int} (hN : ∀ f, N f ≠ some ⟨l, x, y⟩) (hl0 : 0 ≤ l) (hl1 : l < top) (hx : Ok N (l + 1) x) (hy : Ok N (l + 1) y) (hne : x ≠ y) (hlast : last + 1 ≤ 4611686018427387904) (hsz : sz + 1 < maxLen) :
    Calls Tryz.prog 67 #[.pointer (some ⟨t, 0, none⟩), trip l x y] w fun e w' => e = .returned (.int .i64 (last + 1)) ∧ TabAt w' t bn bm (sz + 1) (upd N (last + 1) ⟨l, x, y⟩) top (last + 1) ∧ Keeps [t, bn, bm] w w' := by
  have c0 := h.c0
  have c1 := h.c1
  have c2 := h.c2
  have f2 := h.f2
  have hone := h.wf.one
  have hl : Fits l := by have := h.wf.tops; unfold Fits; omega
  have hfx := h.fits hx
  have hfy := h.fits hy
  obtain ⟨kl, hkey⟩ := key130 hl hfx hfy
  have hG : namesG N (trip l x y) = none := namesG_none hN
  have hrun : ∀ (o : Obj) (q : Nat), (Instr.lookup 150 (.map (some bn)) (.agg #[.int .i64 l, .int .i64 x, .int .i64 y]) true).run Tryz.prog ((w.alloc o).drewN q) = .ok (.tuple #[.int .i64 0, .bool false]) ((w.alloc o).drewN q) := by
    intro o q
    have := (((h.names.alloc o).drewN q).look lawNode Tryz.underlying150 (zeroFn _) hkey).1
    rw [hG] at this
    exact this
  have hb : (x == y) = false := by simp [hne]
  have htn : t < w.heap.size := cell_lt c0
  have Hk : Hid (keyOf Tryz.prog 157 (trip l x y) = some kl) := hkey
  have HG : Hid (namesG N (trip l x y) = none) := hG
  have HN : Hid (∀ f, N f ≠ some ⟨l, x, y⟩) := hN
  clear hG hkey hN
  unfold trip
  go_enter Tryz.func67, Tryz.ntmps67
  go_wp2
  go_quiet (fail)
  go_wp2
  obtain ⟨W, hW⟩ : ∃ W, W = (((w.alloc (Obj.cells #[Value.int IntKind.i64 l, Value.int IntKind.i64 x, Value.int IntKind.i64 y] 157)).drewN nq).setCell { block := t, off := 2 } (Value.int IntKind.i64 (last + 1))) := ⟨_, rfl⟩
  rw [← hW]
  have H := join_mid h hW
  clear hW
  obtain ⟨k0, k1, k2, b0, b1, b2, hnW, hmW, hKW, kf⟩ := H
  have n1 := hnW.ne_cell k0
  have n2 := hmW.ne_cell k0
  simp only at n1 n2
  have ntn : t ∉ [bn, bm] := by simp; exact ⟨n1, n2⟩
  have n3 := hnW.ne_cell b0
  have n4 := hmW.ne_cell b0
  simp only at n3 n4
  have nbn : w.heap.size ∉ [bn, bm] := by simp; exact ⟨n3, n4⟩
  have hGm : nodesG N (.int .i64 (last + 1)) = none := by simp [nodesG, h.wf.fresh]
  have HGm : Hid (nodesG N (.int .i64 (last + 1)) = none) := hGm
  clear hGm
  go_region_held3 (fun w' => w'.cell? ⟨t, 0, none⟩ = some (.map (some bn)) ∧ w'.cell? ⟨t, 1, none⟩ = some (.map (some bm)) ∧ w'.cell? ⟨t, 2, none⟩ = some (.int .i64 (last + 1)) ∧ w'.cell? ⟨w.heap.size, 0, none⟩ = some (.int .i64 l) ∧ w'.cell? ⟨w.heap.size, 1, none⟩ = some (.int .i64 x) ∧ w'.cell? ⟨w.heap.size, 2, none⟩ = some (.int .i64 y))
    (first | exact ⟨k0, k1, k2, b0, b1, b2⟩ | exact ⟨hkp.cell k0 ntn, hkp.cell k1 ntn, hkp.cell k2 ntn, hkp.cell b0 nbn, hkp.cell b1 nbn, hkp.cell b2 nbn⟩ | assumption)
    (first
      | (go_at_call 131; refine (put_any (t := t) (bn := bn) (bm := bm) (l := l) (x := x) (y := y) (f := last + 1) (w := W.drew) k0 k1 hnW hmW h.ne (by unfold Fits; omega) hl hfx hfy (by omega) (by omega)).mono ?_; rintro e w2 ⟨rfl, hm1, hm2, hkp⟩))
  go_wp2_with fail
  go_ret
  have hwf' : Wf (upd N (last + 1) ⟨l, x, y⟩) top (last + 1) := h.wf.upd (n := ⟨l, x, y⟩) ⟨hl0, hl1⟩ hx hy hne HN.out
  rw [upSz_new HG.out] at hm1
  rw [upSz_new HGm.out] at hm2
  refine ⟨rfl, ⟨hwf', hkp.cell k0 ntn, hkp.cell k1 ntn, hkp.cell k2 ntn, (hkp.frozen (p := ⟨t, 2, none⟩) (cell_lt (w := W) k2) ntn).trans kf, ?_, ?_, h.ne, hlast⟩, ?_⟩
  · exact hm1.congr (fun v _ _ => names_upd h.wf hwf' v)
  · exact hm2.congr (fun v _ _ => nodes_upd (n := ⟨l, x, y⟩) v)
  · exact (hKW.mono (by simp)).trans (((Keeps.refl _ _).drew).trans (hkp.mono (by simp)))

theorem join_any {w : World} {t bn bm sz : Nat} {N : Tab} {top last : Int} (h : TabAt w t bn bm sz N top last) {l x y : Int} (hl0 : 0 ≤ l) (hl1 : l < top) (hx : Ok N (l + 1) x) (hy : Ok N (l + 1) y) (hlast : last + 1 ≤ 4611686018427387904) (hsz : sz + 1 < maxLen) :
    Calls Tryz.prog 67 #[.pointer (some ⟨t, 0, none⟩), trip l x y] w fun e w' => ∃ r N' last' sz', e = .returned (.int .i64 r) ∧ TabAt w' t bn bm sz' N' top last' ∧ Sub N N' ∧ Ok N' l r ∧ (∀ a, E N' r a = if a l then E N y a else E N x a) ∧ last ≤ last' ∧ last' ≤ last + 1 ∧ sz' ≤ sz + 1 ∧ Keeps [t, bn, bm] w w' := by
  have hl : Fits l := by have := h.wf.tops; unfold Fits; omega
  by_cases e : x = y
  · subst e
    refine (join_eq l x).mono ?_
    rintro e w' ⟨rfl, hk⟩
    exact ⟨x, N, last, sz, rfl, h.grow hk, Sub.refl _, hx.mono (by omega), fun a => by simp, by omega, by omega, by omega, hk.mono (by simp)⟩
  · by_cases hex : ∃ f, N f = some ⟨l, x, y⟩
    · obtain ⟨f, hf⟩ := hex
      refine (join_known h hf hl (h.fits hx) (h.fits hy) e).mono ?_
      rintro e w' ⟨rfl, hk⟩
      exact ⟨f, N, last, sz, rfl, h.grow hk, Sub.refl _, ok_node hf, fun a => E_node h.wf hf a, by omega, by omega, by omega, hk.mono (by simp)⟩
    · have hN : ∀ f, N f ≠ some ⟨l, x, y⟩ := fun f hf => hex ⟨f, hf⟩
      refine (join_new h hN hl0 hl1 hx hy e hlast hsz).mono ?_
      rintro e w' ⟨rfl, hT, hk⟩
      refine ⟨last + 1, _, last + 1, sz + 1, rfl, hT, sub_upd h.wf _, ok_node (upd_same N _ _), fun a => ?_, by omega, by omega, by omega, hk⟩
      rw [E_node hT.wf (upd_same N (last + 1) ⟨l, x, y⟩), E_sub h.wf hT.wf (sub_upd h.wf _) hx, E_sub h.wf hT.wf (sub_upd h.wf _) hy]

end Go.Proofs.YtmgjegokkbghlaaGreatDoor
