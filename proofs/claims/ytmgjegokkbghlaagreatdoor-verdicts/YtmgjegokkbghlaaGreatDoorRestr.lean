/- The walk of restrict. -/
import Derived.Test.YtmgjegokkbghlaaGreatDoorTable
namespace Go.Proofs.YtmgjegokkbghlaaGreatDoor
open Go.RowKit Go.Maps Bdd
attribute [local go_sem ↓] Go.wp_at_zero Go.wp_at_succ

theorem rowRes : (250 : TypeId) < Tryz.prog.types.size := of_decide_eq_true (by kernel_rfl)
theorem lawRes : Keyed Tryz.prog 250 := Keyed.of_law (deep_law_laid laidOut (m := 2) (by omega) rowRes (by kernel_rfl) (by rw [Tryz.underlying250]))
theorem cellsRes : Tryz.prog.cellsOf 250 = 3 := by kernel_rfl
theorem cells4 : Tryz.prog.cellsOf 4 = 1 := by kernel_rfl
theorem lits4 (d : Nat) (b : Bool) : Tryz.prog.keyLits (d + 1) 4 [.bool b] = some [.bool b] := by
  unfold Program.keyLits
  simp [Tryz.underlying4]
def rtr (f l : Int) (v : Bool) : Value := .agg #[.int .i64 f, .int .i64 l, .bool v]
theorem rtr_inj {f l f' l' : Int} {v v' : Bool} (h : rtr f l v = rtr f' l' v') : f = f' ∧ l = l' ∧ v = v' := by
  simpa [rtr] using h
theorem keyRes {f l : Int} (hf : Fits f) (hl : Fits l) (v : Bool) : ∃ kl, keyOf Tryz.prog 250 (rtr f l v) = some kl := by
  have e : Tryz.prog.keyType 250 = true := by kernel_rfl
  have f' : (rtr f l v).formed Tryz.prog 250 = true := by simp [rtr, Value.formed, Tryz.underlying250, cellsRes]
  have g : Tryz.prog.keyLits (298 + 1 + 1) 250 (rtr f l v).cells.toList = some [.int .i64 f, .int .i64 l, .bool v] := by
    rw [Program.keyLits.eq_def]
    simp [rtr, Value.cells, Tryz.underlying250, cellsRes, cells69, cells3, cells4, lits69 298 hf, lits3 298 hl, lits4 298 v]
  have e2 : Tryz.prog.types.size + 1 = 298 + 1 + 1 := by kernel_rfl
  exact ⟨_, by simp only [keyOf, Tryz.underlying250, e, f', e2, g]; rfl⟩

/-- what the memo says -/
def ResOk (N : Tab) (lv : Int) (v : Bool) (G : Value → Option Value) : Prop :=
  ∀ f x, G (rtr f lv v) = some x → ∃ r, x = .int .i64 r ∧ Ok N 0 f ∧ Ok N 0 r ∧ (∀ l, Ok N l f → Ok N l r) ∧ ∀ a, E N r a = E N f (setAt a lv v)
theorem ResOk.none (N : Tab) (lv : Int) (v : Bool) : ResOk N lv v (fun _ => Option.none) := by
  intro f x hx; cases hx
theorem ResOk.sub {N N' : Tab} {top last last' lv : Int} {v : Bool} {G : Value → Option Value} (h : ResOk N lv v G) (hw : Wf N top last) (hw' : Wf N' top last') (hs : Sub N N') : ResOk N' lv v G := by
  intro f x hx
  obtain ⟨r, rfl, h1, h2, h3, h4⟩ := h f x hx
  refine ⟨r, rfl, h1.sub hs, h2.sub hs, fun l a => (h3 l (ok_back hw' hs h1 a)).sub hs, fun a => ?_⟩
  rw [E_sub hw hw' hs h1, E_sub hw hw' hs h2, h4]
theorem ResOk.set {N : Tab} {lv : Int} {v : Bool} {G : Value → Option Value} (h : ResOk N lv v G) {f r : Int} (h1 : Ok N 0 f) (h2 : Ok N 0 r) (h3 : ∀ l, Ok N l f → Ok N l r) (h4 : ∀ a, E N r a = E N f (setAt a lv v)) :
    ResOk N lv v (setG G (rtr f lv v) (some (.int .i64 r))) := by
  intro f' x hx
  by_cases e : rtr f' lv v = rtr f lv v
  · obtain ⟨rfl, _, _⟩ := rtr_inj e
    rw [setG_same] at hx
    cases hx
    exact ⟨r, rfl, h1, h2, h3, h4⟩
  · rw [setG_other _ _ e] at hx
    exact h f' x hx

/-- the box of a restriction, and all that was there -/
abbrev BoxR (W : World) (B : Nat) (f l : Int) (v : Bool) (w' : World) : Prop := w'.cell? ⟨B, 0, none⟩ = some (.int .i64 f) ∧ w'.cell? ⟨B, 1, none⟩ = some (.int .i64 l) ∧ w'.cell? ⟨B, 2, none⟩ = some (.bool v) ∧ Keeps [] W w'
theorem boxR_keep {W a b : World} {B : Nat} {f l : Int} {v : Bool} (hk : Keeps [] a b) (hS : BoxR W B f l v a) : BoxR W B f l v b :=
  ⟨hk.cell hS.1 (by simp), hk.cell hS.2.1 (by simp), hk.cell hS.2.2.1 (by simp), hS.2.2.2.trans hk⟩

set_option maxRecDepth 100000 in
set_option maxHeartbeats 400000 in
theorem restrict_out {w : World} {t bn bm bd sz : Nat} {N : Tab} {top last : Int} (hT : TabAt w t bn bm sz N top last) {f lv : Int} {v : Bool} (hf : Fits f) (hlv : lv < lvl N f) :
    Calls Tryz.prog 185 #[.pointer (some ⟨t, 0, none⟩), rtr f lv v, .map (some bd)] w fun e w' => e = .returned (.int .i64 f) ∧ Keeps [] w w' := by
  unfold rtr
  obtain ⟨W, hW⟩ : ∃ W, W = w.alloc (.cells #[Value.int .i64 f, Value.int .i64 lv, Value.bool v] 250) := ⟨_, rfl⟩
  have hkW : Keeps [] w W := by rw [hW]; exact (Keeps.refl _ _).alloc _
  have hTW : TabAt W.drew t bn bm sz N top last := hT.grow hkW.drew
  have s0 : BoxR W w.heap.size f lv v W.drew := ⟨by rw [hW]; simp, by rw [hW]; simp, by rw [hW]; simp, (Keeps.refl _ _).drew⟩
  have HW : Hid (W = w.alloc (.cells #[Value.int .i64 f, Value.int .i64 lv, Value.bool v] 250)) := hW
  clear hW
  go_enter Tryz.func185, Tryz.ntmps185
  go_wp2_with fail
  rw [← HW.out]
  go_region_held3 (fun w' => w'.cell? ⟨w.heap.size, 0, none⟩ = some (.int .i64 f) ∧ w'.cell? ⟨w.heap.size, 1, none⟩ = some (.int .i64 lv) ∧ w'.cell? ⟨w.heap.size, 2, none⟩ = some (.bool v) ∧ Keeps [] W w')
    (first | exact s0 | exact boxR_keep (by assumption) (by assumption) | assumption)
    (first
      | (go_at_call 132; refine (level_any hTW hf).mono ?_; rintro e w1 ⟨rfl, hk1⟩))
  have s1 := (by assumption : BoxR W w.heap.size f lv v w1)
  have d1 := s1.1
  go_wp2_with fail
  go_ret
  exact ⟨rfl, hkW.trans s1.2.2.2⟩

/-- a node is found, whatever was laid since -/
theorem node_run {w : World} {t bn bm sz : Nat} {N : Tab} {top last : Int} (hT : TabAt w t bn bm sz N top last) {f : Int} {n : Nd} (hN : N f = some n) :
    (Instr.lookup 151 (.map (some bm)) (.int .i64 f) false).run Tryz.prog w = .ok (.agg #[.int .i64 n.lv, .int .i64 n.lo, .int .i64 n.hi]) w ∧ (∀ o, (Instr.lookup 151 (.map (some bm)) (.int .i64 f) false).run Tryz.prog (w.alloc o) = .ok (.agg #[.int .i64 n.lv, .int .i64 n.lo, .int .i64 n.hi]) (w.alloc o)) ∧ (Instr.lookup 151 (.map (some bm)) (.int .i64 f) false).run Tryz.prog w.drew = .ok (.agg #[.int .i64 n.lv, .int .i64 n.lo, .int .i64 n.hi]) w.drew ∧ ∀ o, (Instr.lookup 151 (.map (some bm)) (.int .i64 f) false).run Tryz.prog (w.alloc o).drew = .ok (.agg #[.int .i64 n.lv, .int .i64 n.lo, .int .i64 n.hi]) (w.alloc o).drew := by
  have key : ∀ w', MapIs w' Tryz.prog 88 bm sz (nodesG N) → (Instr.lookup 151 (.map (some bm)) (.int .i64 f) false).run Tryz.prog w' = .ok (.agg #[.int .i64 n.lv, .int .i64 n.lo, .int .i64 n.hi]) w' := by
    intro w' hm
    have hG : nodesG N (.int .i64 f) = some (nodeV n) := by simp [nodesG, hN]
    have := (hm.look lawFn Tryz.underlying151 (zeroNode _) (keyFn (hT.fits (ok_node hN)))).2
    rw [hG] at this
    exact this
  exact ⟨key _ hT.nodes, fun o => key _ (hT.nodes.alloc o), key _ hT.nodes.drew, fun o => key _ (hT.nodes.alloc o).drew⟩

set_option maxRecDepth 100000 in
set_option maxHeartbeats 400000 in
theorem restrict_here {w : World} {t bn bm bd sz : Nat} {N : Tab} {top last : Int} (hT : TabAt w t bn bm sz N top last) {f : Int} {v : Bool} {n : Nd} (hN : N f = some n) :
    Calls Tryz.prog 185 #[.pointer (some ⟨t, 0, none⟩), rtr f n.lv v, .map (some bd)] w fun e w' => e = .returned (.int .i64 (if v then n.hi else n.lo)) ∧ Keeps [] w w' := by
  unfold rtr
  have hf : Fits f := hT.fits (ok_node hN)
  have hlv : lvl N f = n.lv := by simp [lvl, hN]
  have HN : Hid (N f = some n) := hN
  obtain ⟨W, hW⟩ : ∃ W, W = w.alloc (.cells #[Value.int .i64 f, Value.int .i64 n.lv, Value.bool v] 250) := ⟨_, rfl⟩
  have hkW : Keeps [] w W := by rw [hW]; exact (Keeps.refl _ _).alloc _
  have hTW : TabAt W.drew t bn bm sz N top last := hT.grow hkW.drew
  have s0 : BoxR W w.heap.size f n.lv v W.drew := ⟨by rw [hW]; simp, by rw [hW]; simp, by rw [hW]; simp, (Keeps.refl _ _).drew⟩
  have HW : Hid (W = w.alloc (.cells #[Value.int .i64 f, Value.int .i64 n.lv, Value.bool v] 250)) := hW
  clear hW hN
  go_enter Tryz.func185, Tryz.ntmps185
  go_wp2_with fail
  rw [← HW.out]
  go_region_held3 (fun w' => w'.cell? ⟨w.heap.size, 0, none⟩ = some (.int .i64 f) ∧ w'.cell? ⟨w.heap.size, 1, none⟩ = some (.int .i64 n.lv) ∧ w'.cell? ⟨w.heap.size, 2, none⟩ = some (.bool v) ∧ Keeps [] W w')
    (first | exact s0 | exact boxR_keep (by assumption) (by assumption) | assumption)
    (first
      | (go_at_call 132; refine (level_any hTW hf).mono ?_; rw [hlv]; rintro e w1 ⟨rfl, hk1⟩))
  have s1 := (by assumption : BoxR W w.heap.size f n.lv v w1)
  have d1 := s1.1
  have d2 := s1.2.1
  have d3 := s1.2.2.1
  have hT1 := hTW.grow hk1
  have c1 := hT1.c1
  obtain ⟨hr1, hr2, hr3, hr4⟩ := node_run hT1 HN.out
  have lt1 : t < w1.heap.size := cell_lt (p := ⟨t, 1, none⟩) c1
  have ls : w.heap.size < w1.heap.size := cell_lt (p := ⟨w.heap.size, 0, none⟩) d1
  clear hlv
  cases v with
  | true =>
    go_wp2_with fail
    go_region
    go_wp2_with fail
    go_ret
    exact ⟨rfl, ((hkW.trans s1.2.2.2).alloc _).drew⟩
  | false =>
    go_wp2_with fail
    go_region
    go_wp2_with fail
    go_ret
    exact ⟨rfl, ((hkW.trans s1.2.2.2).alloc _).drew⟩

set_option maxRecDepth 100000 in
set_option maxHeartbeats 400000 in
theorem restrict_hit {w : World} {t bn bm bd sz m : Nat} {N : Tab} {top last : Int} {G : Value → Option Value} (hT : TabAt w t bn bm sz N top last) (hd : MapIs w Tryz.prog 250 bd m G) {f lv r : Int} {v : Bool} {n : Nd} (hN : N f = some n) (hlt : n.lv < lv) (hfl : Fits lv) (hG : G (rtr f lv v) = some (.int .i64 r)) :
    Calls Tryz.prog 185 #[.pointer (some ⟨t, 0, none⟩), rtr f lv v, .map (some bd)] w fun e w' => e = .returned (.int .i64 r) ∧ Keeps [] w w' := by
  have hf : Fits f := hT.fits (ok_node hN)
  obtain ⟨kl, hkey⟩ := keyRes hf hfl v
  have hlv : lvl N f = n.lv := by simp [lvl, hN]
  have HN : Hid (N f = some n) := hN
  obtain ⟨W, hW⟩ : ∃ W, W = w.alloc (.cells #[Value.int .i64 f, Value.int .i64 lv, Value.bool v] 250) := ⟨_, rfl⟩
  have hkW : Keeps [] w W := by rw [hW]; exact (Keeps.refl _ _).alloc _
  have hTW : TabAt W.drew t bn bm sz N top last := hT.grow hkW.drew
  have s0 : BoxR W w.heap.size f lv v W.drew := ⟨by rw [hW]; simp, by rw [hW]; simp, by rw [hW]; simp, (Keeps.refl _ _).drew⟩
  have HW : Hid (W = w.alloc (.cells #[Value.int .i64 f, Value.int .i64 lv, Value.bool v] 250)) := hW
  have hdW : MapIs W Tryz.prog 250 bd m G := hd.keeps hkW (by simp)
  have hne : (n.lv == lv) = false := by simp; omega
  have Hkey : Hid (keyOf Tryz.prog 250 (rtr f lv v) = some kl) := hkey
  have HG : Hid (G (rtr f lv v) = some (.int .i64 r)) := hG
  unfold rtr
  clear hW hN hkey hG
  go_enter Tryz.func185, Tryz.ntmps185
  go_wp2_with fail
  rw [← HW.out]
  go_region_held3 (fun w' => w'.cell? ⟨w.heap.size, 0, none⟩ = some (.int .i64 f) ∧ w'.cell? ⟨w.heap.size, 1, none⟩ = some (.int .i64 lv) ∧ w'.cell? ⟨w.heap.size, 2, none⟩ = some (.bool v) ∧ Keeps [] W w')
    (first | exact s0 | exact boxR_keep (by assumption) (by assumption) | assumption)
    (first
      | (go_at_call 132; refine (level_any hTW hf).mono ?_; rw [hlv]; rintro e w1 ⟨rfl, hk1⟩))
  have s1 := (by assumption : BoxR W w.heap.size f lv v w1)
  have d1 := s1.1
  have d2 := s1.2.1
  have d3 := s1.2.2.1
  have hT1 := hTW.grow hk1
  have c1 := hT1.c1
  obtain ⟨hr1, hr2, hr3, hr4⟩ := node_run hT1 HN.out
  have lt1 : t < w1.heap.size := cell_lt (p := ⟨t, 1, none⟩) c1
  have hrun2 : ∀ o, (Instr.lookup 251 (.map (some bd)) (.agg #[.int .i64 f, .int .i64 lv, .bool v]) true).run Tryz.prog (w1.alloc o).drew = .ok (.tuple #[.int .i64 r, .bool true]) (w1.alloc o).drew := by
    intro o
    have := (((hdW.keeps s1.2.2.2 (by simp)).alloc o).drew.look lawRes Tryz.underlying251 (zero69 _) Hkey.out).1
    rw [HG.out] at this
    exact this
  have ls : w.heap.size < w1.heap.size := cell_lt (p := ⟨w.heap.size, 0, none⟩) d1
  clear hlv
  go_wp2_with fail
  go_region
  go_wp2_with fail
  go_ret
  exact ⟨rfl, ((hkW.trans s1.2.2.2).alloc _).drew⟩

def RestrictSaid (lv : Int) (v : Bool) (k : Nat) : Prop := ∀ (w : World) (t bn bm bd sz m : Nat) (N : Tab) (top last : Int) (G : Value → Option Value) (l f : Int),
  TabAt w t bn bm sz N top last → MapIs w Tryz.prog 250 bd m G → ResOk N lv v G → bd ≠ bn → bd ≠ bm → 0 ≤ l → top - l ≤ k → Ok N l f → last + (pw k : Int) ≤ 4611686018427387904 → sz + pw k < maxLen → m + pw k < maxLen →
  Calls Tryz.prog 185 #[.pointer (some ⟨t, 0, none⟩), .agg #[.int .i64 f, .int .i64 lv, .bool v], .map (some bd)] w fun e w' => ∃ r N' last' sz' m' G', e = .returned (.int .i64 r) ∧ TabAt w' t bn bm sz' N' top last' ∧ MapIs w' Tryz.prog 250 bd m' G' ∧ ResOk N' lv v G' ∧ Sub N N' ∧ Ok N' l r ∧
    (∀ a, E N' r a = E N f (setAt a lv v)) ∧ last ≤ last' ∧ last' + 1 ≤ last + (pw k : Int) ∧ sz' + 1 ≤ sz + pw k ∧ m' + 1 ≤ m + pw k ∧ Keeps [t, bn, bm, bd] w w'

/-- behind 'low, high := r, r': two boxes more, at A and D -/
structure MidR (V : World) (B C A D : Nat) (f lv : Int) (v : Bool) (n : Nd) (x y : Int) (w' : World) : Prop where
  b0 : w'.cell? ⟨B, 0, none⟩ = some (.int .i64 f)
  b1 : w'.cell? ⟨B, 1, none⟩ = some (.int .i64 lv)
  b2 : w'.cell? ⟨B, 2, none⟩ = some (.bool v)
  n0 : w'.cell? ⟨C, 0, none⟩ = some (.int .i64 n.lv)
  n1 : w'.cell? ⟨C, 1, none⟩ = some (.int .i64 n.lo)
  n2 : w'.cell? ⟨C, 2, none⟩ = some (.int .i64 n.hi)
  a0 : w'.cell? ⟨A, 0, none⟩ = some (.int .i64 x)
  a1 : w'.cell? ⟨A, 1, none⟩ = some (.int .i64 lv)
  a2 : w'.cell? ⟨A, 2, none⟩ = some (.bool v)
  d0 : w'.cell? ⟨D, 0, none⟩ = some (.int .i64 y)
  d1 : w'.cell? ⟨D, 1, none⟩ = some (.int .i64 lv)
  d2 : w'.cell? ⟨D, 2, none⟩ = some (.bool v)
  fa : ∀ i, w'.frozen? ⟨A, i, none⟩ = false
  fd : ∀ i, w'.frozen? ⟨D, i, none⟩ = false
  ne : A ≠ D
  lA : V.heap.size ≤ A
  lD : V.heap.size ≤ D
  lB : B < V.heap.size
  lC : C < V.heap.size
  k : Keeps [] V w'
theorem MidR.start {V : World} {B C : Nat} {f lv : Int} {v : Bool} {n : Nd} (b0 : V.cell? ⟨B, 0, none⟩ = some (.int .i64 f)) (b1 : V.cell? ⟨B, 1, none⟩ = some (.int .i64 lv)) (b2 : V.cell? ⟨B, 2, none⟩ = some (.bool v)) (n0 : V.cell? ⟨C, 0, none⟩ = some (.int .i64 n.lv)) (n1 : V.cell? ⟨C, 1, none⟩ = some (.int .i64 n.lo)) (n2 : V.cell? ⟨C, 2, none⟩ = some (.int .i64 n.hi)) :
    MidR V B C V.heap.size (V.heap.size + 1) f lv v n f f (((V.alloc (.cells #[.int .i64 f, .int .i64 lv, .bool v] 250)).alloc (.cells #[.int .i64 f, .int .i64 lv, .bool v] 250)).drew) ∧
    MidR V B C (V.heap.size + 1) V.heap.size f lv v n f f (((V.alloc (.cells #[.int .i64 f, .int .i64 lv, .bool v] 250)).alloc (.cells #[.int .i64 f, .int .i64 lv, .bool v] 250)).drew) := by
  have hk : Keeps [] V (((V.alloc (.cells #[.int .i64 f, .int .i64 lv, .bool v] 250)).alloc (.cells #[.int .i64 f, .int .i64 lv, .bool v] 250)).drew) := (((Keeps.refl _ _).alloc _).alloc _).drew
  have lB : B < V.heap.size := cell_lt (p := ⟨B, 0, none⟩) b0
  have lC : C < V.heap.size := cell_lt (p := ⟨C, 0, none⟩) n0
  have q : ∀ i x, (#[Value.int .i64 f, .int .i64 lv, .bool v] : Array Value)[i]? = some x → (((V.alloc (.cells #[.int .i64 f, .int .i64 lv, .bool v] 250)).alloc (.cells #[.int .i64 f, .int .i64 lv, .bool v] 250)).drew).cell? ⟨V.heap.size, i, none⟩ = some x := by
    intro i x hx
    refine (((Keeps.refl [] _).alloc _).drew).cell (a := V.alloc (.cells #[.int .i64 f, .int .i64 lv, .bool v] 250)) ?_ (by simp)
    rw [World.cell?_alloc_at _ _ _ _ rfl]; exact hx
  have q' : ∀ i x, (#[Value.int .i64 f, .int .i64 lv, .bool v] : Array Value)[i]? = some x → (((V.alloc (.cells #[.int .i64 f, .int .i64 lv, .bool v] 250)).alloc (.cells #[.int .i64 f, .int .i64 lv, .bool v] 250)).drew).cell? ⟨V.heap.size + 1, i, none⟩ = some x := by
    intro i x hx
    show ((V.alloc _).alloc _).cell? _ = _
    rw [World.cell?_alloc_at _ _ _ _ (by simp)]; exact hx
  have p : ∀ i, (((V.alloc (.cells #[.int .i64 f, .int .i64 lv, .bool v] 250)).alloc (.cells #[.int .i64 f, .int .i64 lv, .bool v] 250)).drew).frozen? ⟨V.heap.size, i, none⟩ = false := fun i =>
    ((((Keeps.refl [] (V.alloc (.cells #[.int .i64 f, .int .i64 lv, .bool v] 250))).alloc _).drew).frozen (p := ⟨V.heap.size, i, none⟩) (by simp) (by simp)).trans (World.frozen?_alloc_at _ _ _ _ rfl)
  have p' : ∀ i, (((V.alloc (.cells #[.int .i64 f, .int .i64 lv, .bool v] 250)).alloc (.cells #[.int .i64 f, .int .i64 lv, .bool v] 250)).drew).frozen? ⟨V.heap.size + 1, i, none⟩ = false := fun i => by
    show ((V.alloc _).alloc _).frozen? _ = _
    rw [World.frozen?_alloc_at _ _ _ _ (by simp)]
  have z0 := hk.cell b0 (by simp)
  have z1 := hk.cell b1 (by simp)
  have z2 := hk.cell b2 (by simp)
  have z3 := hk.cell n0 (by simp)
  have z4 := hk.cell n1 (by simp)
  have z5 := hk.cell n2 (by simp)
  exact ⟨⟨z0, z1, z2, z3, z4, z5, q 0 _ rfl, q 1 _ rfl, q 2 _ rfl, q' 0 _ rfl, q' 1 _ rfl, q' 2 _ rfl, p, p', by omega, by omega, by omega, lB, lC, hk⟩, ⟨z0, z1, z2, z3, z4, z5, q' 0 _ rfl, q' 1 _ rfl, q' 2 _ rfl, q 0 _ rfl, q 1 _ rfl, q 2 _ rfl, p', p, by omega, by omega, by omega, lB, lC, hk⟩⟩

theorem MidR.set {V a : World} {B C A D : Nat} {f lv : Int} {v : Bool} {n : Nd} {x0 y0 : Int} (m : MidR V B C A D f lv v n x0 y0 a) (x y : Int) : MidR V B C A D f lv v n x y (((a.setCell ⟨A, 0, none⟩ (.int .i64 x)).setCell ⟨D, 0, none⟩ (.int .i64 y)).drew) := by
  have q : ∀ p u, a.cell? p = some u → p ≠ ⟨A, 0, none⟩ → p ≠ ⟨D, 0, none⟩ → (((a.setCell ⟨A, 0, none⟩ (.int .i64 x)).setCell ⟨D, 0, none⟩ (.int .i64 y)).drew).cell? p = some u := fun p u h h1 h2 => two_cell h1 h2 h
  have := m.lA; have := m.lD; have := m.lB; have := m.lC
  exact ⟨q _ _ m.b0 (by first | (simp; done) | (simp; omega)) (by first | (simp; done) | (simp; omega)), q _ _ m.b1 (by simp) (by simp), q _ _ m.b2 (by simp) (by simp), q _ _ m.n0 (by first | (simp; done) | (simp; omega)) (by first | (simp; done) | (simp; omega)), q _ _ m.n1 (by simp) (by simp), q _ _ m.n2 (by simp) (by simp),
    two_first m.ne m.a0, q _ _ m.a1 (by simp) (by simp), q _ _ m.a2 (by simp) (by simp), two_second m.ne m.d0, q _ _ m.d1 (by simp) (by simp), q _ _ m.d2 (by simp) (by simp), fun i => by simp [m.fa], fun i => by simp [m.fd], m.ne, m.lA, m.lD, m.lB, m.lC, ((m.k.setCell _ (Or.inr m.lA) _).setCell _ (Or.inr m.lD) _).drew⟩

/-- the two boxes while the parts are worked on -/
abbrev TwoR (V : World) (S : List Nat) (A D C : Nat) (x y l lv : Int) (v : Bool) (w' : World) : Prop :=
  w'.cell? ⟨A, 0, none⟩ = some (.int .i64 x) ∧ w'.cell? ⟨A, 1, none⟩ = some (.int .i64 lv) ∧ w'.cell? ⟨A, 2, none⟩ = some (.bool v) ∧ w'.cell? ⟨D, 0, none⟩ = some (.int .i64 y) ∧ w'.cell? ⟨D, 1, none⟩ = some (.int .i64 lv) ∧ w'.cell? ⟨D, 2, none⟩ = some (.bool v) ∧ w'.cell? ⟨C, 0, none⟩ = some (.int .i64 l) ∧ Keeps S V w'
theorem twoR_keep {V a b : World} {S : List Nat} {A D C : Nat} {x y l lv : Int} {v : Bool} (hA : A ∉ S) (hD : D ∉ S) (hC : C ∉ S) (hk : Keeps S a b) (hS : TwoR V S A D C x y l lv v a) : TwoR V S A D C x y l lv v b := by
  obtain ⟨h1, h2, h3, h4, h5, h6, h7, h8⟩ := hS
  exact ⟨hk.cell h1 hA, hk.cell h2 hA, hk.cell h3 hA, hk.cell h4 hD, hk.cell h5 hD, hk.cell h6 hD, hk.cell h7 hC, h8.trans hk⟩

set_option maxRecDepth 100000 in
set_option maxHeartbeats 1000000 in
theorem restrict_rec {lv : Int} {v : Bool} (k : Nat) (IH : RestrictSaid lv v k) {w : World} {t bn bm bd sz m : Nat} {N : Tab} {top last : Int} {G : Value → Option Value} (hT : TabAt w t bn bm sz N top last) (hd : MapIs w Tryz.prog 250 bd m G) (hok : ResOk N lv v G) (hnn : bd ≠ bn) (hnm : bd ≠ bm) {f : Int} {n : Nd} (hN : N f = some n) (hlt : n.lv < lv) (hfl : Fits lv)
    (hlk : top - n.lv ≤ (k + 1 : Nat)) (hb1 : last + (pw (k + 1) : Int) ≤ 4611686018427387904) (hb2 : sz + pw (k + 1) < maxLen) (hb3 : m + pw (k + 1) < maxLen) (hG : G (rtr f lv v) = none) :
    Calls Tryz.prog 185 #[.pointer (some ⟨t, 0, none⟩), rtr f lv v, .map (some bd)] w fun e w' => ∃ r N' last' sz' m' G', e = .returned (.int .i64 r) ∧ TabAt w' t bn bm sz' N' top last' ∧ MapIs w' Tryz.prog 250 bd m' G' ∧ ResOk N' lv v G' ∧ Sub N N' ∧ Ok N' n.lv r ∧
      (∀ a, E N' r a = E N f (setAt a lv v)) ∧ last ≤ last' ∧ last' + 1 ≤ last + (pw (k + 1) : Int) ∧ sz' + 1 ≤ sz + pw (k + 1) ∧ m' + 1 ≤ m + pw (k + 1) ∧ Keeps [t, bn, bm, bd] w w' := by
  have hpp : pw (k + 1) = 2 * pw k := rfl
  rw [hpp] at hb1 hb2 hb3 ⊢
  clear hpp
  have hp1 := pw_pos k
  have hf : Fits f := hT.fits (ok_node hN)
  obtain ⟨kl, hkey⟩ := keyRes hf hfl v
  have hlv : lvl N f = n.lv := by simp [lvl, hN]
  have HN : Hid (N f = some n) := hN
  obtain ⟨W, hW⟩ : ∃ W, W = w.alloc (.cells #[Value.int .i64 f, Value.int .i64 lv, Value.bool v] 250) := ⟨_, rfl⟩
  have hkW : Keeps [] w W := by rw [hW]; exact (Keeps.refl _ _).alloc _
  have hTW : TabAt W.drew t bn bm sz N top last := hT.grow hkW.drew
  have s0 : BoxR W w.heap.size f lv v W.drew := ⟨by rw [hW]; simp, by rw [hW]; simp, by rw [hW]; simp, (Keeps.refl _ _).drew⟩
  have HW : Hid (W = w.alloc (.cells #[Value.int .i64 f, Value.int .i64 lv, Value.bool v] 250)) := hW
  have hdW : MapIs W Tryz.prog 250 bd m G := hd.keeps hkW (by simp)
  have hne : (n.lv == lv) = false := by simp; omega
  have Hkey : Hid (keyOf Tryz.prog 250 (rtr f lv v) = some kl) := hkey
  have HG : Hid (G (rtr f lv v) = none) := hG
  unfold rtr
  clear hW hN hkey hG
  go_enter Tryz.func185, Tryz.ntmps185
  go_wp2_with fail
  rw [← HW.out]
  go_region_held3 (fun w' => w'.cell? ⟨w.heap.size, 0, none⟩ = some (.int .i64 f) ∧ w'.cell? ⟨w.heap.size, 1, none⟩ = some (.int .i64 lv) ∧ w'.cell? ⟨w.heap.size, 2, none⟩ = some (.bool v) ∧ Keeps [] W w')
    (first | exact s0 | exact boxR_keep (by assumption) (by assumption) | assumption)
    (first
      | (go_at_call 132; refine (level_any hTW hf).mono ?_; rw [hlv]; rintro e w1 ⟨rfl, hk1⟩))
  have s1 := (by assumption : BoxR W w.heap.size f lv v w1)
  have d1 := s1.1
  have d2 := s1.2.1
  have d3 := s1.2.2.1
  have hT1 := hTW.grow hk1
  have c1 := hT1.c1
  obtain ⟨hr1, hr2, hr3, hr4⟩ := node_run hT1 HN.out
  have lt1 : t < w1.heap.size := cell_lt (p := ⟨t, 1, none⟩) c1
  have hrun2 : ∀ o, (Instr.lookup 251 (.map (some bd)) (.agg #[.int .i64 f, .int .i64 lv, .bool v]) true).run Tryz.prog (w1.alloc o).drew = .ok (.tuple #[.int .i64 0, .bool false]) (w1.alloc o).drew := by
    intro o
    have := (((hdW.keeps s1.2.2.2 (by simp)).alloc o).drew.look lawRes Tryz.underlying251 (zero69 _) Hkey.out).1
    rw [HG.out] at this
    exact this
  have ls : w.heap.size < w1.heap.size := cell_lt (p := ⟨w.heap.size, 0, none⟩) d1
  clear hlv
  go_wp2_with fail
  go_region
  go_wp2_with fail
  obtain ⟨V, hV⟩ : ∃ V, V = (w1.alloc (Obj.cells #[Value.int IntKind.i64 n.lv, Value.int IntKind.i64 n.lo, Value.int IntKind.i64 n.hi] 157)).drew := ⟨_, rfl⟩
  rw [← hV]
  have hkV : Keeps [] w1 V := by rw [hV]; exact ((Keeps.refl _ _).alloc _).drew
  have e0 := hkV.cell d1 (by simp)
  have e1 := hkV.cell d2 (by simp)
  have e2 := hkV.cell d3 (by simp)
  have e3 : V.cell? ⟨w1.heap.size, 0, none⟩ = some (.int .i64 n.lv) := by rw [hV]; simp
  have e4 : V.cell? ⟨w1.heap.size, 1, none⟩ = some (.int .i64 n.lo) := by rw [hV]; simp
  have e5 : V.cell? ⟨w1.heap.size, 2, none⟩ = some (.int .i64 n.hi) := by rw [hV]; simp
  have hTV := hT1.grow hkV
  have hKV : Keeps [] w V := (hkW.trans s1.2.2.2).trans hkV
  have lB := cell_lt (p := ⟨w.heap.size, 0, none⟩) e0
  obtain ⟨hms, hms'⟩ := MidR.start e0 e1 e2 e3 e4 e5
  clear hV hr1 hr2 hr3 hr4 hrun2 d1 d2 d3
  go_cut [10, 11] (fun a d wc => ∃ A D, a = .pointer (some ⟨A, 0, none⟩) ∧ d = .pointer (some ⟨D, 0, none⟩) ∧ MidR V w.heap.size w1.heap.size A D f lv v n f f wc)
  case first =>
    go_region
    all_goals (go_wp2_with fail; go_meet; first | exact ⟨_, _, rfl, rfl, hms⟩ | exact ⟨_, _, rfl, rfl, hms'⟩)
  case rest =>
    obtain ⟨A, D, rfl, rfl, hm⟩ := hcut
    clear hms hms' e0 e1 e2 e3 e4 e5
    have e0 := hm.n1
    have e1 := hm.n2
    have q1 := hm.a0
    have q2 := hm.d0
    have q3 := hm.fa 0
    have q4 := hm.fd 0
    have hAD := hm.ne
    have hDA := hm.ne.symm
    have nCA : w1.heap.size ≠ A := by have := hm.lA; have := hm.lC; omega
    have nCD : w1.heap.size ≠ D := by have := hm.lD; have := hm.lC; omega
    have k1 : ∀ x, (wc.setCell ⟨A, 0, none⟩ x).cell? ⟨w1.heap.size, 2, none⟩ = some (.int .i64 n.hi) := fun x => (World.cell?_setCell_far wc ⟨A, 0, none⟩ ⟨w1.heap.size, 2, none⟩ x (by show A ≠ w1.heap.size; omega)).trans e1
    have k2 : ∀ x, (wc.setCell ⟨A, 0, none⟩ x).cell? ⟨D, 0, none⟩ = some (.int .i64 f) := fun x => (World.cell?_setCell_far wc ⟨A, 0, none⟩ ⟨D, 0, none⟩ x (by show A ≠ D; omega)).trans q2
    go_wp2_with fail
    go_region
    go_wp2_with fail
    obtain ⟨Y, hY⟩ : ∃ Y, Y = ((wc.setCell { block := A, off := 0 } (Value.int IntKind.i64 n.lo)).setCell { block := D, off := 0 } (Value.int IntKind.i64 n.hi)).drew := ⟨_, rfl⟩
    rw [← hY]
    have hm2 : MidR V w.heap.size w1.heap.size A D f lv v n n.lo n.hi Y := by rw [hY]; exact hm.set n.lo n.hi
    clear hY hm k1 k2 e0 e1 q1 q2 q3 q4
    have hKY : Keeps [] w Y := hKV.trans hm2.k
    have hTY : TabAt Y.drew t bn bm sz N top last := hT.grow hKY.drew
    have hdY : MapIs Y.drew Tryz.prog 250 bd m G := (hd.keeps hKY (by simp)).drew
    have l1 : t < w.heap.size := cell_lt (p := ⟨t, 0, none⟩) hT.c0
    have l2 := hT.names.lt
    have l3 := hT.nodes.lt
    have l4 := hd.lt
    have hwV := hKV.size
    have hlA := hm2.lA
    have hlD := hm2.lD
    have hlC : w.heap.size ≤ w1.heap.size := by omega
    have hA : A ∉ [t, bn, bm, bd] := by simp; omega
    have hD : D ∉ [t, bn, bm, bd] := by simp; omega
    have hC : w1.heap.size ∉ [t, bn, bm, bd] := by simp; omega
    have t0 : TwoR Y [t, bn, bm, bd] A D w1.heap.size n.lo n.hi n.lv lv v Y.drew := ⟨hm2.a0, hm2.a1, hm2.a2, hm2.d0, hm2.d1, hm2.d2, hm2.n0, (Keeps.refl _ _).drew⟩
    have hlv := hT.wf.lv f n HN.out
    have hlo := hT.wf.lo f n HN.out
    have hhi := hT.wf.hi f n HN.out
    have hlk2 : top - (n.lv + 1) ≤ (k : Int) := by omega
    have hbb1 : last + (pw k : Int) ≤ 4611686018427387904 := by omega
    have hbb2 : sz + pw k < maxLen := by omega
    have hbb3 : m + pw k < maxLen := by omega
    have hM1 : 0 ≤ n.lv + 1 := by omega
    go_region_held3 (fun w' => w'.cell? ⟨A, 0, none⟩ = some (.int .i64 n.lo) ∧ w'.cell? ⟨A, 1, none⟩ = some (.int .i64 lv) ∧ w'.cell? ⟨A, 2, none⟩ = some (.bool v) ∧ w'.cell? ⟨D, 0, none⟩ = some (.int .i64 n.hi) ∧ w'.cell? ⟨D, 1, none⟩ = some (.int .i64 lv) ∧ w'.cell? ⟨D, 2, none⟩ = some (.bool v) ∧ w'.cell? ⟨w1.heap.size, 0, none⟩ = some (.int .i64 n.lv) ∧ Keeps [t, bn, bm, bd] Y w')
      (first | exact t0 | exact twoR_keep hA hD hC (by assumption) (by assumption) | assumption)
      (first
        | (go_at_call_of 185 (Value.int IntKind.i64 n.lo); refine (IH Y.drew t bn bm bd sz m N top last G (n.lv + 1) n.lo hTY hdY hok hnn hnm hM1 hlk2 hlo hbb1 hbb2 hbb3).mono ?_; rintro e w4 ⟨r0, N1, last1, sz1, m1, G1, rfl, hT1', hd1, hdn1, hs1, hok1, hE1, hla1, hlb1, hsz1, hn1, hk4⟩)
        | (go_at_call_of 185 (Value.int IntKind.i64 n.hi); refine (IH w4 t bn bm bd sz1 m1 N1 top last1 G1 (n.lv + 1) n.hi hT1' hd1 hdn1 hnn hnm hM1 hlk2 ?z1 ?z4 ?z5 ?z6).mono ?_; (case z1 => exact hhi.sub hs1); (case z4 => omega); (case z5 => omega); (case z6 => omega); rintro e w5 ⟨r1, N2, last2, sz2, m2, G2, rfl, hT2, hd2, hdn2, hs2, hok2, hE2, hla2, hlb2, hsz2, hn2, hk5⟩)
        | (go_at_call 67; refine (join_at hT2 n.lv r0 r1 ?z1 ?z2 ?z3 ?z4 ?z5 ?z6).mono ?_; (case z1 => omega); (case z2 => omega); (case z3 => exact hok1.sub hs2); (case z4 => exact hok2); (case z5 => omega); (case z6 => omega); rintro e w6 ⟨r, N3, last3, sz3, rfl, hT3, hs3, hok3, hE3, hla3, hlb3, hsz3, hk6'⟩; have hk6 : Keeps [t, bn, bm, bd] w5 w6 := hk6'.mono (by simp)))
    have s6 := (by assumption : TwoR Y [t, bn, bm, bd] A D w1.heap.size n.lo n.hi n.lv lv v w6)
    have hkY6 := s6.2.2.2.2.2.2.2
    have hBn : w.heap.size ∉ [t, bn, bm, bd] := by simp; omega
    have c0' := hkY6.cell hm2.b0 hBn
    have c1' := hkY6.cell hm2.b1 hBn
    have c2' := hkY6.cell hm2.b2 hBn
    have hbdt : bd ≠ t := fun e => (hd.ne_cell hT.c0) e.symm
    have hd6 : MapIs w6 Tryz.prog 250 bd m2 G2 := hd2.keeps hk6' (by simp; exact ⟨hbdt, hnn, hnm⟩)
    have hn3 : m2 < maxLen := by omega
    clear s6
    go_wp2_with (first
      | (at_mapUpdate; refine wpList_store _ rfl _ _ _ 251 rfl 250 88 lawRes Tryz.underlying251 bd m2 G2 rfl hd6 hn3 (rtr f lv v) (.int .i64 r) kl rfl rfl Hkey.out ?_; intro w7 hm7 hg7)
      | fail)
    go_ret
    have hsN3 : Sub N N3 := hs1.trans (hs2.trans hs3)
    have hof3 := (ok_node HN.out).sub hsN3
    have hEr : ∀ a, E N3 r a = E N f (setAt a lv v) := by
      intro a
      rw [hE3, E_sub hT1'.wf hT2.wf hs2 hok1, hE1, hE2, E_sub hT.wf hT1'.wf hs1 hhi, E_node hT.wf HN.out]
      have : setAt a lv v n.lv = a n.lv := by unfold setAt; rw [if_neg (by omega)]
      rw [this]
    have hK7 : Keeps [t, bn, bm, bd] w w7 := ((hKY.mono (by simp)).trans hkY6).grown hg7 (by simp)
    refine ⟨r, N3, last3, sz3, _, _, rfl, hT3.keeps ((Keeps.refl [bd] w6).grown hg7 (by simp)) (by simp; exact fun e => hbdt e.symm) (by simp; exact fun e => hnn e.symm) (by simp; exact fun e => hnm e.symm), hm7, ?_, hsN3, hok3, hEr, by omega, by omega, by omega, ?_, hK7⟩
    · refine (hdn2.sub hT2.wf hT3.wf hs3).set (hof3.mono hlv.1) (hok3.mono hlv.1) ?_ ?_
      · intro l' q1
        have z1 := ok_back hT3.wf hsN3 ((ok_node HN.out).mono hlv.1) q1
        rcases z1 with e | e | ⟨nd, hnd, hl⟩
        · have := hT.wf.none_of (Or.inl e); rw [HN.out] at this; cases this
        · have := hT.wf.none_of (Or.inr e); rw [HN.out] at this; cases this
        · rw [HN.out] at hnd; cases hnd; exact hok3.mono hl
      · intro a
        rw [hEr, E_sub hT.wf hT3.wf hsN3 (ok_node HN.out)]
    · split <;> omega

theorem E_setAt {N : Tab} {top last : Int} (h : Wf N top last) {l f lv : Int} (hf : Ok N l f) (hl : lv < l) (v : Bool) (a : Int → Bool) : E N f (setAt a lv v) = E N f a :=
  E_indep h hf _ _ (fun i hi => by unfold setAt; rw [if_neg (by omega)])

theorem restrict_any {lv : Int} (hfl : Fits lv) (h8 : lv ≤ 11) (v : Bool) : ∀ k, RestrictSaid lv v k := by
  intro k
  have far : ∀ (k : Nat) (w : World) (t bn bm bd sz m : Nat) (N : Tab) (top last : Int) (G : Value → Option Value) (l f : Int), TabAt w t bn bm sz N top last → MapIs w Tryz.prog 250 bd m G → ResOk N lv v G → Ok N l f → lv < lvl N f →
      Calls Tryz.prog 185 #[.pointer (some ⟨t, 0, none⟩), .agg #[.int .i64 f, .int .i64 lv, .bool v], .map (some bd)] w fun e w' => ∃ r N' last' sz' m' G', e = .returned (.int .i64 r) ∧ TabAt w' t bn bm sz' N' top last' ∧ MapIs w' Tryz.prog 250 bd m' G' ∧ ResOk N' lv v G' ∧ Sub N N' ∧ Ok N' l r ∧
        (∀ a, E N' r a = E N f (setAt a lv v)) ∧ last ≤ last' ∧ last' + 1 ≤ last + (pw k : Int) ∧ sz' + 1 ≤ sz + pw k ∧ m' + 1 ≤ m + pw k ∧ Keeps [t, bn, bm, bd] w w' := by
    intro k w t bn bm bd sz m N top last G l f hT hd hok hf hlt
    have hpp := pw_pos k
    refine (restrict_out (v := v) (bd := bd) hT (hT.fits hf) hlt).mono ?_
    rintro e w' ⟨rfl, hk⟩
    exact ⟨f, N, last, sz, m, G, rfl, hT.grow hk, hd.keeps hk (by simp), hok, Sub.refl _, hf, fun a => (E_setAt hT.wf (ok_lvl hf (m := lv + 1) (by omega)) (by omega) v a).symm, by omega, by omega, by omega, by omega, hk.mono (by simp)⟩
  induction k with
  | zero =>
    intro w t bn bm bd sz m N top last G l f hT hd hok hnn hnm hl0 hlk hof hb1 hb2 hb3
    refine far 0 w t bn bm bd sz m N top last G l f hT hd hok hof ?_
    rcases hof with rfl | rfl | ⟨nd, hnd, hl⟩
    · simp only [lvl, hT.wf.zero]; omega
    · simp only [lvl, hT.wf.onee]; omega
    · have := hT.wf.lv f nd hnd; omega
  | succ k IH =>
    intro w t bn bm bd sz m N top last G l f hT hd hok hnn hnm hl0 hlk hof hb1 hb2 hb3
    by_cases hlt : lv < lvl N f
    · exact far (k + 1) w t bn bm bd sz m N top last G l f hT hd hok hof hlt
    · obtain ⟨nd, hnd, hl⟩ : ∃ n, N f = some n ∧ l ≤ n.lv := by
        rcases hof with rfl | rfl | ⟨nd, hnd, hl⟩
        · simp only [lvl, hT.wf.zero] at hlt; omega
        · simp only [lvl, hT.wf.onee] at hlt; omega
        · exact ⟨nd, hnd, hl⟩
      have hle : nd.lv ≤ lv := by simp only [lvl, hnd] at hlt; omega
      have hpp := pw_pos (k + 1)
      by_cases he : nd.lv = lv
      · subst he
        refine (restrict_here (v := v) (bd := bd) hT hnd).mono ?_
        rintro e w' ⟨rfl, hk⟩
        have hlo := hT.wf.lo f nd hnd
        have hhi := hT.wf.hi f nd hnd
        refine ⟨if v then nd.hi else nd.lo, N, last, sz, m, G, rfl, hT.grow hk, hd.keeps hk (by simp), hok, Sub.refl _, ?_, ?_, by omega, by omega, by omega, by omega, hk.mono (by simp)⟩
        · cases v
          · exact hlo.mono (by omega)
          · exact hhi.mono (by omega)
        · intro a
          rw [E_node hT.wf hnd (setAt a nd.lv v)]
          have : setAt a nd.lv v nd.lv = v := by simp [setAt]
          rw [this]
          cases v
          · exact (E_setAt hT.wf hlo (by omega) _ a).symm
          · exact (E_setAt hT.wf hhi (by omega) _ a).symm
      · have hlt2 : nd.lv < lv := by omega
        cases hG : G (rtr f lv v) with
        | none =>
          refine (restrict_rec k IH hT hd hok hnn hnm hnd hlt2 hfl (by omega) hb1 hb2 hb3 hG).mono ?_
          rintro e w' ⟨r, N', last', sz', m', G', h1, h2, h3, h4, h5, h6, h7⟩
          exact ⟨r, N', last', sz', m', G', h1, h2, h3, h4, h5, h6.mono hl, h7⟩
        | some x =>
          obtain ⟨r, rfl, _, _, h5, h6⟩ := hok f x hG
          refine (restrict_hit hT hd hnd hlt2 hfl hG).mono ?_
          rintro e w' ⟨rfl, hk⟩
          exact ⟨r, N, last, sz, m, G, rfl, hT.grow hk, hd.keeps hk (by simp), hok, Sub.refl _, h5 l hof, h6, by omega, by omega, by omega, by omega, hk.mono (by simp)⟩

set_option maxRecDepth 100000 in
set_option maxHeartbeats 400000 in
theorem trestrict_any {w : World} {t bn bm sz : Nat} {N : Tab} {top last : Int} (hT : TabAt w t bn bm sz N top last) {f lv : Int} {v : Bool} (hf : Ok N 0 f) (h0 : 0 ≤ lv) (h1 : lv < top) (hb1 : last + 2048 ≤ 4611686018427387904) (hb2 : sz + 2048 < maxLen) :
    Calls Tryz.prog 149 #[.pointer (some ⟨t, 0, none⟩), .int .i64 f, .int .i64 lv, .bool v] w fun e w' => ∃ r N' last' sz', e = .returned (.int .i64 r) ∧ TabAt w' t bn bm sz' N' top last' ∧ Sub N N' ∧ Ok N' 0 r ∧
    (∀ a, E N' r a = E N f (setAt a lv v)) ∧ last ≤ last' ∧ last' ≤ last + 2048 ∧ sz' ≤ sz + 2048 ∧ Keeps [t, bn, bm] w w' := by
  have hmm := @run_makeMap Tryz.prog
  have hk : Keeps [] w (w.alloc (.map #[] 0)) := (Keeps.refl _ _).alloc _
  have hl : t < w.heap.size := cell_lt (p := ⟨t, 0, none⟩) hT.c0
  have l2 := hT.names.lt
  have l3 := hT.nodes.lt
  have hp : pw 11 = 2048 := by decide
  have ht8 := hT.wf.tops
  have hml : 2048 < maxLen := by decide
  have hfl : Fits lv := by unfold Fits; omega
  go_enter Tryz.func149, Tryz.ntmps149
  go_wp2_with fail
  refine (restrict_any hfl (by omega) v 11 _ t bn bm w.heap.size sz 0 N top last _ 0 f (hT.grow hk) (MapIs.made w Tryz.prog 250) (ResOk.none N lv v) (by omega) (by omega) (by omega) (by omega) hf (by rw [hp]; omega) (by rw [hp]; omega) (by rw [hp]; omega)).mono ?_
  rintro e w1 ⟨r, N', last', sz', m', G', rfl, h1, h2, h3, h4, h5, h6, h7, h8, h9, h10, h11⟩
  rw [hp] at h8 h9
  go_wp2_with fail
  go_ret
  refine ⟨r, N', last', sz', rfl, h1, h4, h5, h6, h7, by omega, by omega, ?_⟩
  exact ((hk.mono (by simp)).trans h11).strike (by simp)

end Go.Proofs.YtmgjegokkbghlaaGreatDoor
