/- The walk of cross. -/
import Derived.Test.YtbfmekddfibciaaExchB
import Derived.Test.YtbfmekddfibciaaExchT
import Derived.Deep.MidRow
namespace Go.Proofs.Ytbfmekddfibciaa
open Go.RowKit Go.Maps Bdd
attribute [local go_sem ↓] Go.wp_at_zero Go.wp_at_succ

section
variable {w w' : World} {t bn bm n1 n2 : Nat} {A N : Tab} {top l last lastc : Int} {D S P : Int → Prop}

theorem ok_fits (hw : Wf N top last) (hbig : last ≤ 4611686018427387904) {k x : Int} (hx : Ok N k x) : Fits x := by
  have := hw.one
  rcases hx with rfl | rfl | ⟨m, hm, _⟩
  · unfold Fits; omega
  · unfold Fits; omega
  · have := hw.range x m hm; unfold Fits; omega

theorem part_ov (hw : Wf N top last) (h : ExS N A l last lastc D S P) (hD : ∀ f, D f) {x : Int} (hx : Ok N (l + 1) x) (b : Bool) : part (ov A N) x l b = part N x (l + 1) b := by
  by_cases e : AtLv N (l + 1) x
  · obtain ⟨m, hm, hl⟩ := e
    rw [part_at hm hl, part_at (ov_some (h.low1 x m hm hl (hD x))) rfl]
  · rw [part_id e, part_id]
    rintro ⟨m, hm, hl⟩
    cases hA : A x with
    | some m' =>
      rw [ov_some hA] at hm
      cases hm
      have hr := (h.rg x m hA).1
      rcases hx with rfl | rfl | ⟨n, hn, hnl⟩
      · omega
      · omega
      · have : n.lv ≠ l + 1 := fun e' => e ⟨n, hn, e'⟩
        rw [h.other x n hn (by omega) this] at hA
        cases hA
        omega
    | none =>
      rw [ov_none hA] at hm
      rcases hx with rfl | rfl | ⟨n, hn, hnl⟩
      · rw [hw.zero] at hm; cases hm
      · rw [hw.onee] at hm; cases hm
      · rw [hn] at hm; cases hm; omega

set_option maxRecDepth 100000 in
set_option maxHeartbeats 400000 in
theorem branches_raw {M : Tab} (c1 : w.cell? ⟨t, 1, none⟩ = some (.map (some bm))) (hown : MapIs w Try.prog 69 bm n2 (nodesG M)) {f : Int} (hf : Fits f) (l : Int) :
    Calls Try.prog 80 #[.pointer (some ⟨t, 0, none⟩), .int .i64 f, .int .i64 l] w fun e w' => e = .returned (.tuple #[.int .i64 (part M f l false), .int .i64 (part M f l true)]) ∧ Keeps [] w w' := by
  have hkey := keyFn hf
  cases hN : M f with
  | none =>
    have hG : nodesG M (.int .i64 f) = none := by simp [nodesG, hN]
    have hl : ∀ b, part M f l b = f := by simp [part, hN]
    rw [hl, hl]
    clear hl hN
    go_enter Try.func80, Try.ntmps80
    go_wp2_with (first
      | (at_lookup; refine wpList_look_ok _ rfl _ _ 110 rfl 69 115 lawFn Try.underlying110 (zeroNode _) bm n2 (nodesG M) rfl hown (.int .i64 f) _ rfl hkey ?_; rw [hG])
      | go_in)
    go_ret2
    exact ⟨rfl, (Keeps.refl _ _).alloc _⟩
  | some n =>
    have hG : nodesG M (.int .i64 f) = some (nodeV n) := by simp [nodesG, hN]
    unfold nodeV trip at hG
    by_cases e : n.lv = l
    · have hl0 : part M f l false = n.lo := by simp [part, hN, e]
      have hl1 : part M f l true = n.hi := by simp [part, hN, e]
      rw [hl0, hl1]
      have e' : (n.lv == l) = true := by simp [e]
      clear hl0 hl1 hN e
      go_enter Try.func80, Try.ntmps80
      go_wp2_with (first
        | (at_lookup; refine wpList_look_ok _ rfl _ _ 110 rfl 69 115 lawFn Try.underlying110 (zeroNode _) bm n2 (nodesG M) rfl hown (.int .i64 f) _ rfl hkey ?_; rw [hG])
        | go_in)
      go_quiet (fail)
      go_wp2
      go_ret2
      exact ⟨rfl, ((Keeps.refl _ _).alloc _).drewN _⟩
    · have hl : ∀ b, part M f l b = f := by simp [part, hN, e]
      rw [hl, hl]
      have e' : (n.lv == l) = false := by simp [e]
      clear hl hN e
      go_enter Try.func80, Try.ntmps80
      go_wp2_with (first
        | (at_lookup; refine wpList_look_ok _ rfl _ _ 110 rfl 69 115 lawFn Try.underlying110 (zeroNode _) bm n2 (nodesG M) rfl hown (.int .i64 f) _ rfl hkey ?_; rw [hG])
        | go_in)
      go_ret2
      exact ⟨rfl, (Keeps.refl _ _).alloc _⟩

set_option maxRecDepth 100000 in
set_option maxHeartbeats 400000 in
theorem level_raw {M : Tab} (c1 : w.cell? ⟨t, 1, none⟩ = some (.map (some bm))) (hown : MapIs w Try.prog 69 bm n2 (nodesG M)) {f : Int} (hf : Fits f) :
    Calls Try.prog 79 #[.pointer (some ⟨t, 0, none⟩), .int .i64 f] w fun e w' => e = .returned (.int .i64 (lvl M f)) ∧ Keeps [] w w' := by
  have hkey := keyFn hf
  cases hN : M f with
  | none =>
    have hG : nodesG M (.int .i64 f) = none := by simp [nodesG, hN]
    have hl : lvl M f = 9223372036854775807 := by simp [lvl, hN]
    rw [hl]
    clear hl hN
    go_enter Try.func79, Try.ntmps79
    go_wp2_with (first
      | (at_lookup; refine wpList_look_ok _ rfl _ _ 110 rfl 69 115 lawFn Try.underlying110 (zeroNode _) bm n2 (nodesG M) rfl hown (.int .i64 f) _ rfl hkey ?_; rw [hG])
      | go_in)
    go_ret
    exact ⟨rfl, (Keeps.refl _ _).alloc _⟩
  | some n =>
    have hG : nodesG M (.int .i64 f) = some (nodeV n) := by simp [nodesG, hN]
    have hl : lvl M f = n.lv := by simp [lvl, hN]
    rw [hl]
    clear hl hN
    unfold nodeV trip at hG
    go_enter Try.func79, Try.ntmps79
    go_wp2_with (first
      | (at_lookup; refine wpList_look_ok _ rfl _ _ 110 rfl 69 115 lawFn Try.underlying110 (zeroNode _) bm n2 (nodesG M) rfl hown (.int .i64 f) _ rfl hkey ?_; rw [hG])
      | go_in)
    go_ret
    exact ⟨rfl, (Keeps.refl _ _).alloc _⟩

theorem results_cell_mid {P : Program} {fn : Func} {p : Tmp} {ty : TypeId} (h : fn.results = #[.cell p ty]) (tmps : Array Value) (w : World) (g : Nat) (cs : List Value) (d : TypeDesc)
    (hp : tmps.getD p undef = .pointer (some ⟨g, 0, none⟩)) (hc : w.rangeAt g 0 cs) (hu : P.underlying ty = some d) (hd : d.isRow = true) (hi : (P.info? ty).map (·.size) = some cs.length) :
    (results fn tmps).run P w = .ok (.agg cs.toArray) w := by
  have hp' : tmps[p]?.getD undef = .pointer (some ⟨g, 0, none⟩) := by simpa using hp
  simp [results, h, hp', asAddr, run_loadVar_mid w g 0 ty cs d hc hu hd hi]
theorem sizeNode : (Try.prog.info? 115).map (·.size) = some 3 := by kernel_rfl
theorem range3 {w : World} {g : Nat} {a b c : Value} (h0 : w.cell? ⟨g, 0, none⟩ = some a) (h1 : w.cell? ⟨g, 1, none⟩ = some b) (h2 : w.cell? ⟨g, 2, none⟩ = some c) : w.rangeAt g 0 [a, b, c] := by
  intro j v hv
  match j, hv with
  | 0, hv => simp at hv; subst hv; exact h0
  | 1, hv => simp at hv; subst hv; exact h1
  | 2, hv => simp at hv; subst hv; exact h2

/-- join on the way -/
theorem join_x (h : TabX w t bn bm n1 n2 A N lastc) (hw : Wf N top last) (he : ExS N A l last lastc D S P) (hbig : last ≤ 4611686018427387904) (hl0 : 0 ≤ l) (hl1 : l < 8) {x y : Int} (hx : Ok N (l + 2) x) (hy : Ok N (l + 2) y) (hlast : lastc + 1 ≤ 4611686018427387904) (hn1 : n1 < maxLen) (hn2 : n2 < maxLen) :
    Calls Try.prog 74 #[.pointer (some ⟨t, 0, none⟩), trip (l + 1) x y] w fun e w' => ∃ r A' lastc' n1' n2', e = .returned (.int .i64 r) ∧ TabX w' t bn bm n1' n2' A' N lastc' ∧ ExS N A' l last lastc' D S P ∧ Sub A A' ∧ JoinOf A' (l + 1) x y r ∧ Fits r ∧ lastc' ≤ lastc + 1 ∧ n1' ≤ n1 + 1 ∧ n2' ≤ n2 + 1 ∧ Keeps [t, bn, bm] w w' := by
  have fx := ok_fits hw hbig hx
  have fy := ok_fits hw hbig hy
  have fl : Fits (l + 1) := by unfold Fits; omega
  have hone := h.one
  by_cases e : x = y
  · subst e
    refine (join_eq (l + 1) x).mono ?_
    rintro e w' ⟨rfl, hk⟩
    exact ⟨x, A, lastc, n1, n2, rfl, h.keeps hk (by simp) (by simp) (by simp), he, Sub.refl _, Or.inl ⟨rfl, rfl⟩, fx, by omega, by omega, by omega, hk.mono (by simp)⟩
  · by_cases hex : ∃ g, A g = some ⟨l + 1, x, y⟩
    · obtain ⟨g, hg⟩ := hex
      refine (joinX_known h.c0 h.names (namesG_inj h.u hg) fl fx fy e).mono ?_
      rintro e' w' ⟨rfl, hk⟩
      exact ⟨g, A, lastc, n1, n2, rfl, h.keeps hk (by simp) (by simp) (by simp), he, Sub.refl _, Or.inr ⟨e, hg⟩, by have := he.rg g _ hg; have := h.big; unfold Fits; omega, by omega, by omega, by omega, hk.mono (by simp)⟩
    · have hno : ∀ g, A g ≠ some ⟨l + 1, x, y⟩ := fun g hg => hex ⟨g, hg⟩
      have hA : A (lastc + 1) = none := by
        cases hm : A (lastc + 1) with
        | none => rfl
        | some m => have := (he.rg _ m hm).2; omega
      have hNn : N (lastc + 1) = none := by
        cases hm : N (lastc + 1) with
        | none => rfl
        | some m => have := (hw.range _ m hm).2; have := he.le; omega
      refine (joinX_new h.c0 h.c1 h.c2 h.f2 h.names h.nodes h.ne (namesG_none hno) (by simp [nodesG, ov_none hA, hNn]) fl fx fy e hone hlast hn1 hn2).mono ?_
      rintro e' w' ⟨rfl, r2, r0, r1, rf, m1, m2, hk⟩
      exact ⟨lastc + 1, upd A (lastc + 1) ⟨l + 1, x, y⟩, lastc + 1, n1 + 1, n2 + 1, rfl, ⟨r0, r1, r2, rf, m1.congr (fun v _ _ => names_put h.u hA hno v), m2.congr (fun v _ _ => nodes_put (lastc + 1) ⟨l + 1, x, y⟩ v), h.ne, inj_upd h.u hno, hlast, by omega⟩, he.new_put hw hx hy e hno, sub_new hA, Or.inr ⟨e, upd_same _ _ _⟩, by unfold Fits; omega, by omega, by omega, by omega, hk⟩

set_option maxRecDepth 100000 in
set_option maxHeartbeats 1000000 in
theorem cross_any (h : TabX w t bn bm n1 n2 A N lastc) (hw : Wf N top last) (he : ExS N A l last lastc D S P) (hD : ∀ f, D f) (hbig : last ≤ 4611686018427387904) (hl0 : 0 ≤ l) (hl1 : l < 8) {lv x y : Int} (hx : Ok N (l + 1) x) (hy : Ok N (l + 1) y) (hlast : lastc + 2 ≤ 4611686018427387904) (hn1 : n1 + 1 < maxLen) (hn2 : n2 + 1 < maxLen) :
    Calls Try.prog 85 #[.pointer (some ⟨t, 0, none⟩), .int .i64 l, trip lv x y] w fun e w' => ∃ a b A' lastc' n1' n2', e = .returned (trip l a b) ∧ TabX w' t bn bm n1' n2' A' N lastc' ∧ ExS N A' l last lastc' D S P ∧ JoinOf A' (l + 1) (part N x (l + 1) false) (part N y (l + 1) false) a ∧ JoinOf A' (l + 1) (part N x (l + 1) true) (part N y (l + 1) true) b ∧ Fits a ∧ Fits b ∧ lastc' ≤ lastc + 2 ∧ n1' ≤ n1 + 2 ∧ n2' ≤ n2 + 2 ∧ Keeps [t, bn, bm] w w' := by
  have e2 : l + 1 + 1 = l + 2 := by omega
  have p1 : Ok N (l + 2) (part N x (l + 1) false) := e2 ▸ part_ok2 hw hx false
  have p2 : Ok N (l + 2) (part N x (l + 1) true) := e2 ▸ part_ok2 hw hx true
  have p3 : Ok N (l + 2) (part N y (l + 1) false) := e2 ▸ part_ok2 hw hy false
  have p4 : Ok N (l + 2) (part N y (l + 1) true) := e2 ▸ part_ok2 hw hy true
  have fx := ok_fits hw hbig hx
  have fy := ok_fits hw hbig hy
  obtain ⟨W, hW⟩ : ∃ W, W = (w.alloc (Obj.cells #[Value.int IntKind.i64 lv, Value.int IntKind.i64 x, Value.int IntKind.i64 y] 115)).alloc (Obj.cells #[Value.int IntKind.i64 0, Value.int IntKind.i64 0, Value.int IntKind.i64 0] 115) := ⟨_, rfl⟩
  have hkW : Keeps [] w W := by rw [hW]; exact ((Keeps.refl _ _).alloc _).alloc _
  have hW0 := h.keeps hkW (by simp) (by simp) (by simp)
  have b2 : W.cell? ⟨w.heap.size, 2, none⟩ = some (.int .i64 y) := by rw [hW]; exact (((Keeps.refl [] _).alloc _).cell (p := ⟨w.heap.size, 2, none⟩) (by simp) (by simp))
  have hWs : W.heap.size = w.heap.size + 2 := by rw [hW]; simp
  have g0 : W.cell? ⟨w.heap.size + 1, 0, none⟩ = some (.int .i64 0) := by rw [hW]; simp
  have g1 : W.cell? ⟨w.heap.size + 1, 1, none⟩ = some (.int .i64 0) := by rw [hW]; simp
  have g2 : W.cell? ⟨w.heap.size + 1, 2, none⟩ = some (.int .i64 0) := by rw [hW]; simp
  have gf : ∀ i, W.frozen? ⟨w.heap.size + 1, i, none⟩ = false := fun i => by rw [hW]; exact World.frozen?_alloc_at _ _ _ _ (by simp)
  have HW : Hid (W = (w.alloc (Obj.cells #[Value.int IntKind.i64 lv, Value.int IntKind.i64 x, Value.int IntKind.i64 y] 115)).alloc (Obj.cells #[Value.int IntKind.i64 0, Value.int IntKind.i64 0, Value.int IntKind.i64 0] 115)) := hW
  have ltt : t < w.heap.size := cell_lt h.c0
  have ln := h.names.lt
  have lm := h.nodes.lt
  clear hW
  unfold trip
  go_enter Try.func85, Try.ntmps85
  go_wp2_with fail
  rw [← HW.out]
  refine (branches_raw hW0.c1 hW0.nodes fx l).mono ?_
  rintro e w1 ⟨rfl, hk1⟩
  rw [part_ov hw he hD hx, part_ov hw he hD hx]
  have h1 := hW0.keeps hk1 (by simp) (by simp) (by simp)
  have b2' := hk1.cell b2 (by simp)
  go_wp2_with fail
  refine (branches_raw h1.c1 h1.nodes fy l).mono ?_
  rintro e w2 ⟨rfl, hk2⟩
  rw [part_ov hw he hD hy, part_ov hw he hD hy]
  have h2 := h1.keeps hk2 (by simp) (by simp) (by simp)
  have hk12 := hk1.trans hk2
  obtain ⟨x0, hx0⟩ : ∃ x0, x0 = part N x (l + 1) false := ⟨_, rfl⟩
  obtain ⟨x1, hx1⟩ : ∃ x1, x1 = part N x (l + 1) true := ⟨_, rfl⟩
  obtain ⟨y0, hy0⟩ : ∃ y0, y0 = part N y (l + 1) false := ⟨_, rfl⟩
  obtain ⟨y1, hy1⟩ : ∃ y1, y1 = part N y (l + 1) true := ⟨_, rfl⟩
  rw [← hx0, ← hx1, ← hy0, ← hy1]
  rw [← hx0] at p1
  rw [← hx1] at p2
  rw [← hy0] at p3
  rw [← hy1] at p4
  have HX : Hid (x0 = part N x (l + 1) false ∧ x1 = part N x (l + 1) true ∧ y0 = part N y (l + 1) false ∧ y1 = part N y (l + 1) true) := ⟨hx0, hx1, hy0, hy1⟩
  clear hx0 hx1 hy0 hy1
  go_wp2_with fail
  refine (join_x h2 hw he hbig hl0 hl1 p1 p3 (by omega) (by omega) (by omega)).mono ?_
  rintro e w3 ⟨a, A3, lc3, m1, m2, rfl, h3, he3, hs3, ja, fa, hlc3, hm1, hm2, hk3⟩
  go_wp2_with fail
  refine (join_x h3 hw he3 hbig hl0 hl1 p2 p4 (by omega) (by omega) (by omega)).mono ?_
  rintro e w4 ⟨b, A4, lc4, m3, m4, rfl, h4, he4, hs4, jb, fb, hlc4, hm3, hm4, hk4⟩
  have nG : w.heap.size + 1 ∉ [t, bn, bm] := by simp; omega
  have kk : Keeps [t, bn, bm] W w4 := ((hk12.mono (by simp)).trans hk3).trans hk4
  have g0' := kk.cell g0 nG
  have g1' := kk.cell g1 nG
  have g2' := kk.cell g2 nG
  have gf' : ∀ i, w4.frozen? ⟨w.heap.size + 1, i, none⟩ = false := fun i => (kk.frozen (p := ⟨w.heap.size + 1, i, none⟩) (by simp; omega) nG).trans (gf i)
  have gf0 := gf' 0
  have gf1 := gf' 1
  have gf2 := gf' 2
  go_wp2_with fail
  refine bodyPost_ret (results_cell_mid rfl _ _ (w.heap.size + 1) [.int .i64 l, .int .i64 a, .int .i64 b] _ rfl (range3 ?_ ?_ ?_) Try.underlying115 rfl sizeNode) rfl ?_
  · rw [World.cell?_setCell_other _ _ _ _ (by simp), World.cell?_setCell_other _ _ _ _ (by simp)]; exact World.cell?_setCell_same _ _ _ g0'
  · rw [World.cell?_setCell_other _ _ _ _ (by simp)]; refine World.cell?_setCell_same _ _ _ (u := .int .i64 0) ?_; rw [World.cell?_setCell_other _ _ _ _ (by simp)]; exact g1'
  · refine World.cell?_setCell_same _ _ _ (u := .int .i64 0) ?_; rw [World.cell?_setCell_other _ _ _ _ (by simp), World.cell?_setCell_other _ _ _ _ (by simp)]; exact g2'
  · have kz : Keeps [w.heap.size + 1] w4 (((w4.setCell ⟨w.heap.size + 1, 0, none⟩ (.int .i64 l)).setCell ⟨w.heap.size + 1, 1, none⟩ (.int .i64 a)).setCell ⟨w.heap.size + 1, 2, none⟩ (.int .i64 b)) := (((Keeps.refl _ _).setCell _ (Or.inl (by simp)) _).setCell _ (Or.inl (by simp)) _).setCell _ (Or.inl (by simp)) _
    rw [← HX.out.1, ← HX.out.2.1, ← HX.out.2.2.1, ← HX.out.2.2.2]
    exact ⟨a, b, A4, lc4, m3, m4, rfl, h4.keeps kz (by simp; omega) (by simp; omega) (by simp; omega), he4, ja.mono hs4, jb, fa, fb, by omega, by omega, by omega, ((((hkW.mono (S' := [w.heap.size + 1, t, bn, bm]) (by simp)).trans (kk.mono (by simp))).trans (kz.mono (by simp)))).strike (by simp; omega)⟩
end
end Go.Proofs.Ytbfmekddfibciaa
