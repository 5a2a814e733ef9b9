/- grown. -/
import Derived.Test.YtmgjegokkbghlaaBegun
import Derived.Deep.CutBlock
namespace Go.Proofs.Ytmgjegokkbghlaa
open Go.RowKit Go.Maps Bdd
attribute [local go_sem ↓] Go.wp_at_zero Go.wp_at_succ

/-- the values of the function that c makes of three -/
def newt (c : Int) (f g h : Nat → Bool) (i : Nat) : Bool := if c % 8 < 4 then app (c % 8) (f i) (g i) else if c % 8 < 6 then (if f i then g i else h i) else if c % 8 = 6 then !f i else (c / 8 % 2 == 1)

theorem newt_app {c : Int} (h : c % 8 < 4) (f g k : Nat → Bool) (i : Nat) : newt c f g k i = app (c % 8) (f i) (g i) := by simp only [newt, h, if_true]
theorem newt_cho {c : Int} (h : ¬ c % 8 < 4) (h' : c % 8 < 6) (f g k : Nat → Bool) (i : Nat) : newt c f g k i = if f i then g i else k i := by simp only [newt, h, h', if_true, if_false]
theorem newt_not {c : Int} (h : c % 8 = 6) (f g k : Nat → Bool) (i : Nat) : newt c f g k i = !f i := by simp [newt, h]
theorem newt_con {c : Int} (h : ¬ c % 8 < 4) (h' : ¬ c % 8 < 6) (h'' : ¬ c % 8 = 6) (f g k : Nat → Bool) (i : Nat) : newt c f g k i = (c / 8 % 2 == 1) := by simp only [newt, h, h', h'', if_false]

/-- a list of ints that came in -/
def IntsAt (w : World) (b o n : Nat) (zs : Nat → Int) : Prop := ∀ j, j < n → w.cell? ⟨b, o + j, none⟩ = some (.int .i64 (zs j)) ∧ Fits (zs j)

theorem range_of {w : World} {base g n cap : Nat} {ms : List Md} (h : w.ownsRow base 31 17 (.slice (some ⟨g, 0, none⟩) n cap) n (flat ms)) (hn : ms.length = n) (k : Nat) (hk : k < ms.length) : w.rangeAt g (k * 17) (mL ms[k]) := by
  intro j v hv
  have hj : j < 17 := by have := (List.getElem?_eq_some_iff.1 hv).1; simpa using this
  rw [h.cellAt (k * 17 + j) (by omega), flat_get ms k j hj hk]
  exact hv

/-! the append at the round's end, whatever the frame -/
theorem eval_put_same (a : Act) (d : Nat) (v : Value) (h : d < a.tmps.size) : (a.put (some d) v).eval (.tmp d) = v := by
  simp [Act.put, Act.eval, h]
theorem eval_put_other (a : Act) (d t : Nat) (v : Value) (h : t ≠ d) : (a.put (some d) v).eval (.tmp t) = a.eval (.tmp t) := by
  simp [Act.put, Act.eval, Array.getD_eq_getD_getElem?, Ne.symm h]
theorem size_put (a : Act) (d : Option Nat) (v : Value) : (a.put d v).tmps.size = a.tmps.size := by
  cases d <;> simp [Act.put]
theorem build1 (w : World) (h : Int) (t : Nat → Bool) : (Instr.buildSlice 24 1 #[(0, .agg (mA h t))]).run Try.prog w = .ok (.slice (some ⟨w.heap.size, 0, none⟩) 1 1) (w.alloc (.cells (mA h t) 31)) := by
  kernel_rfl
theorem append_ops {ops : Array Oper} {Q : Exit → Act → World → Prop} {a : Act} {w : World} {o1 o2 o3 o4 o5 : Oper}
    (g1 : o1.guard = none) (g2 : o2.guard = none) (g3 : o3.guard = none) (g4 : o4.guard = none) (g5 : o5.guard = none)
    (d1 : o1.dst = some 172) (d2 : o2.dst = some 173) (d3 : o3.dst = some 174) (d4 : o4.dst = some 175) (d5 : o5.dst = some 1)
    (p1 : o1.op = .move (.tmp 1)) (p2 : o2.op = .load 31 (.tmp 12)) (p3 : o3.op = .buildSlice 24 1 #[(0, .tmp 173)]) (p4 : o4.op = .call { callee := .builtin .append, args := #[.tmp 172, .tmp 174], argTypes := #[24, 24] }) (p5 : o5.op = .assign (.tmp 175))
    (hsz : a.tmps.size = 177) {base n cap g B : Nat} {ms : List Md} {h : Int} {tt : Nat → Bool} (e1 : a.eval (.tmp 1) = .slice (some ⟨g, 0, none⟩) n cap) (e12 : a.eval (.tmp 12) = .pointer (some ⟨B, 0, none⟩))
    (hr : w.rangeAt B 0 (mL (h, tt))) (hown : w.ownsRow base 31 17 (.slice (some ⟨g, 0, none⟩) n cap) n (flat ms)) (hn : n + 1 ≤ 1000) (hb : base ≤ w.heap.size)
    (K : ∀ v' w', w'.ownsRow base 31 17 v' (n + 1) (flat ms ++ mL (h, tt)) → (w.alloc (.cells (mA h tt) 31)).grownBy w' (some g) → (v'.ownBlock = some g ∨ v'.ownBlock = some (w.heap.size + 1)) →
      Q .normal (((((a.put (some 172) (.slice (some ⟨g, 0, none⟩) n cap)).put (some 173) (.agg (mA h tt))).put (some 174) (.slice (some ⟨w.heap.size, 0, none⟩) 1 1)).put (some 175) v').put (some 1) v') w') :
    wpList Try.prog ops Q [o1, o2, o3, o4, o5] a w := by
  obtain ⟨i0, hi0, hz0, hz1, hz2⟩ := info_parts info34
  have hmx : 1000 < maxLen := by decide
  refine wpList_plain g1 fun K1 hK1 => BigFrame.wp_move (.tmp 1) p1 (hK1 _ _ ?_)
  rw [d1, e1]
  refine wpList_load_mid g2 31 (.tmp 12) p2 B 0 (by rw [eval_put_other _ _ _ _ (by decide)]; exact e12) (mL (h, tt)) _ hr Try.underlying31 rfl size34 ?_
  rw [d2]
  refine wpList_plain g3 fun K3 hK3 => ?_
  unfold Oper.wp execOp
  have e173 : ((a.put (some 172) (.slice (some ⟨g, 0, none⟩) n cap)).put (some 173) (.agg (mL (h, tt)).toArray)).eval (.tmp 173) = .agg (mA h tt) := eval_put_same _ _ _ (by rw [size_put, hsz]; decide)
  simp only [p3, List.map_toArray, List.map_cons, List.map_nil, e173, Sem.run_bind, build1, Result.andThen_ok, Sem.run_pure]
  refine hK3 _ _ ?_
  rw [d3]
  refine wpList_append_own_at _ g4 _ _ 24 p4 base 31 i0 _ 17 24 Try.underlying24 hi0 hz0 hz1 hz2 rfl (by decide) (.slice (some ⟨g, 0, none⟩) n cap) n (flat ms) ?_ (hown.alloc _) ⟨w.heap.size, 0, none⟩ 1 1 (mL (h, tt)) ?_ rfl (cells_new _ _ _) (by simp [Value.oneCell']) (by omega) (by omega) (by simp; omega) ?_
  · rw [eval_put_other _ _ _ _ (by decide), eval_put_other _ _ _ _ (by decide)]
    exact eval_put_same _ _ _ (by rw [hsz]; decide)
  · exact eval_put_same _ _ _ (by rw [size_put, size_put, hsz]; decide)
  · intro v' w' h1 h2 _ h4
    rw [d4]
    refine wpList_plain g5 fun K5 hK5 => BigFrame.wp_assign (.tmp 175) p5 (hK5 _ _ ?_)
    rw [d5, eval_put_same _ _ _ (by rw [size_put, size_put, size_put, hsz]; decide)]
    refine wpList_nil ?_
    refine K v' w' h1 h2 ?_
    rcases h4 with h4 | h4
    · exact Or.inl h4
    · exact Or.inr (by simpa using h4)

/-- a slot of a great frame, sixteen steps at once -/
theorem set_cons16 {α : Type} (a0 a1 a2 a3 a4 a5 a6 a7 a8 a9 a10 a11 a12 a13 a14 a15 : α) (l : List α) (n : Nat) (v : α) : List.set (a0 :: a1 :: a2 :: a3 :: a4 :: a5 :: a6 :: a7 :: a8 :: a9 :: a10 :: a11 :: a12 :: a13 :: a14 :: a15 :: l) (n + 16) v = a0 :: a1 :: a2 :: a3 :: a4 :: a5 :: a6 :: a7 :: a8 :: a9 :: a10 :: a11 :: a12 :: a13 :: a14 :: a15 :: List.set l n v := rfl
abbrev zA : Array Value := #[.int .i64 0, .bool false, .bool false, .bool false, .bool false, .bool false, .bool false, .bool false, .bool false, .bool false, .bool false, .bool false, .bool false, .bool false, .bool false, .bool false, .bool false]
theorem setCells_new (w : World) (T : TypeId) : ∀ (vs pre post : List Value), vs.length = post.length → (w.alloc (.cells (pre ++ post).toArray T)).setCells w.heap.size pre.length vs = w.alloc (.cells (pre ++ vs).toArray T)
  | [], pre, post, h => by
    have : post = [] := List.length_eq_zero_iff.1 (by simpa using h.symm)
    subst this; rfl
  | v :: r, pre, [], h => by simp at h
  | v :: r, pre, x :: post, h => by
    rw [World.setCells, World.setCell_alloc_at _ _ _ _ _ rfl]
    have e : ((pre ++ x :: post).toArray.setIfInBounds pre.length v) = ((pre ++ [v]) ++ post).toArray := by simp
    rw [e]
    have := setCells_new w T r (pre ++ [v]) post (by simpa using h)
    simp only [List.length_append, List.length_cons, List.length_nil, Nat.zero_add] at this
    rw [this]
    simp
theorem store34 (w : World) (h : Int) (t : Nat → Bool) : (w.alloc (.cells zA 31)).setCells w.heap.size 0 (mA h t).toList = w.alloc (.cells (mA h t) 31) :=
  setCells_new w 31 (mA h t).toList [] zA.toList rfl
theorem there34 (w : World) (C : Array Value) (n : Nat) (hn : n ≤ C.size) : (w.alloc (.cells C 31)).there w.heap.size 0 n := by
  intro j hj
  refine ⟨?_, World.frozen?_alloc_at _ _ _ _ rfl⟩
  rw [World.cell?_alloc_at _ _ _ _ rfl, Nat.zero_add, Array.getElem?_eq_getElem (by omega)]
  rfl
theorem one34 (h : Int) (t : Nat → Bool) : (mA h t).all (·.oneCell') = true := by simp [Value.oneCell']

/-- a whole box of a 'made' -/
def Full (w : World) (B : Nat) (m : Md) : Prop := w.cell? ⟨B, 0, none⟩ = some (.int .i64 m.1) ∧ ∀ i, i < 16 → w.cell? ⟨B, 1 + i, none⟩ = some (.bool (m.2 i))
theorem full_start (w : World) (m : Md) : Full (w.alloc (.cells (mA m.1 m.2) 31)) w.heap.size m := by
  refine ⟨by simp, fun i hi => ?_⟩
  rw [World.cell?_alloc_at _ _ _ _ rfl]
  exact mA_get m.1 m.2 i hi
theorem Full.keeps {w w' : World} {S : List Nat} {B : Nat} {m : Md} (h : Full w B m) (hk : Keeps S w w') (hB : B ∉ S) : Full w' B m := ⟨hk.cell h.1 hB, fun i hi => hk.cell (h.2 i hi) hB⟩

/-- three boxes and a new one -/
structure Four (W0 w : World) (g n cap Bf Bg Bh Bm : Nat) (ms : List Md) (mf mg mh : Md) : Prop where
  ff : Full w Bf mf
  fg : Full w Bg mg
  fh : Full w Bh mh
  own : w.ownsRow W0.heap.size 31 17 (.slice (some ⟨g, 0, none⟩) n cap) n (flat ms)
  keep : Keeps [] W0 w
  lf : Bf < Bm
  lg : Bg < Bm
  lh : Bh < Bm
  lgg : g < Bf
  lm : Bm < w.heap.size
  l0 : W0.heap.size ≤ Bf
theorem Four.keeps {W0 w w' : World} {g n cap Bf Bg Bh Bm : Nat} {ms : List Md} {mf mg mh : Md} {S : List Nat} (h : Four W0 w g n cap Bf Bg Bh Bm ms mf mg mh) (hk : Keeps S w w') (h1 : Bf ∉ S) (h2 : Bg ∉ S) (h3 : Bh ∉ S) (h4 : g ∉ S) (h5 : ∀ i ∈ S, W0.heap.size ≤ i) : Four W0 w' g n cap Bf Bg Bh Bm ms mf mg mh :=
  ⟨h.ff.keeps hk h1, h.fg.keeps hk h2, h.fh.keeps hk h3, ownsRow_keeps h.own hk (fun g' e => by simp [Value.ownBlock] at e; subst e; exact h4), ((h.keep.mono (by simp)).trans hk).strike (fun i hi hlt => by have := h5 i hi; omega), h.lf, h.lg, h.lh, h.lgg, Nat.lt_of_lt_of_le h.lm hk.size, h.l0⟩

/-- where the new function's handle is written -/
theorem four_store {W0 w : World} {g n cap Bf Bg Bh Bm : Nat} {ms : List Md} {mf mg mh : Md} (h : Four W0 w g n cap Bf Bg Bh Bm ms mf mg mh) (v : Value) : Four W0 (w.setCell ⟨Bm, 0, none⟩ v) g n cap Bf Bg Bh Bm ms mf mg mh := by
  have := h.lf; have := h.lg; have := h.lh; have := h.lgg; have := h.l0
  exact h.keeps ((Keeps.refl [Bm] w).setCell _ (Or.inl (by simp)) _) (by simp; omega) (by simp; omega) (by simp; omega) (by simp; omega) (by simp; omega)
theorem part_handle {w : World} {B : Nat} {x y : Int} {tt : Nat → Bool} (h : Part w B x tt 0) : Part (w.setCell ⟨B, 0, none⟩ (.int .i64 y)) B y tt 0 :=
  ⟨World.cell?_setCell_same _ _ _ h.1, fun j hj => ⟨by rw [World.cell?_setCell_other _ _ _ _ (by first | (simp; done) | (simp; omega))]; exact (h.2 j hj).1, by rw [World.frozen?_setCell]; exact (h.2 j hj).2⟩⟩

/-- behind the first switch -/
def Mid1 (W0 : World) (s hb t bn bm : Nat) (od : Ord 4) (g n cap Bf Bg Bh Bm : Nat) (ms : List Md) (mf mg mh : Md) (V : Int → Option Fun) (c : Int) (wc : World) : Prop :=
  Four W0 wc g n cap Bf Bg Bh Bm ms mf mg mh ∧ Part wc Bm ((n : Int) + 1) (newt c mf.2 mg.2 mh.2) 0 ∧ (∀ i ∈ [s, hb, t, bn, bm, od.blk], i < Bf) ∧ ∃ F sz', St wc s hb t bn bm od (n + 1) sz' 2000 ((n : Int) + 1) (addV V ((n : Int) + 1) F) (500000 + 100000 * (n : Int) + 100000) ∧ ∀ i, i < 16 → F (asg i) = newt c mf.2 mg.2 mh.2 i

theorem mid1_mk {W0 w4 w6 : World} {s hb t bn bm g n cap Bf Bg Bh Bm sz' : Nat} {od : Ord 4} {ms : List Md} {mf mg mh : Md} {V : Int → Option Fun} {c : Int} {F : Fun} (h : Four W0 w4 g n cap Bf Bg Bh Bm ms mf mg mh) (hp : Part w4 Bm 0 (newt c mf.2 mg.2 mh.2) 0) (hl : ∀ i ∈ [s, hb, t, bn, bm, od.blk], i < Bf) (hs0 : ∀ i ∈ [s, hb, t, bn, bm, od.blk], W0.heap.size ≤ i) (hsep : g ∉ [s, hb, t, bn, bm, od.blk]) (hBg : Bf ≤ Bg) (hBh : Bf ≤ Bh)
    (hk : Keeps [s, hb, t, bn, bm, od.blk] w4 w6) (hS : St w6 s hb t bn bm od (n + 1) sz' 2000 ((n : Int) + 1) (addV V ((n : Int) + 1) F) (500000 + 100000 * (n : Int) + 100000)) (hF : ∀ i, i < 16 → F (asg i) = newt c mf.2 mg.2 mh.2 i) :
    Mid1 W0 s hb t bn bm od g n cap Bf Bg Bh Bm ms mf mg mh V c (w6.setCell ⟨Bm, 0, none⟩ (.int .i64 ((n : Int) + 1))) := by
  have nin : ∀ B, Bf ≤ B → B ∉ [s, hb, t, bn, bm, od.blk] := fun B hB hin => by have := hl B hin; omega
  have hlf := h.lf
  refine ⟨four_store (h.keeps hk (nin _ (Nat.le_refl _)) (nin _ hBg) (nin _ hBh) hsep hs0) _, part_handle (hp.keeps hk (nin _ (by omega))), hl, F, sz', ?_, hF⟩
  exact hS.keepsS ((Keeps.refl [Bm] w6).setCell _ (Or.inl (by simp)) _) (fun i hi hin => by simp at hin; subst hin; have := hl _ hi; omega)
theorem part_step2 {w : World} {B : Nat} {h : Int} {tt : Nat → Bool} {i : Nat} (hp : Part w B h tt i) (hi : i < 16) (x : Bool) : Part ((w.setCell ⟨B, 1 + i, none⟩ (.bool x)).setCell ⟨B, 1 + i, none⟩ (.bool (tt i))) B h tt (i + 1) := by
  refine ⟨?_, fun j hj => ⟨?_, by rw [World.frozen?_setCell, World.frozen?_setCell]; exact (hp.2 j hj).2⟩⟩
  · rw [World.cell?_setCell_other _ _ _ _ (by first | (simp; done) | (simp; omega)), World.cell?_setCell_other _ _ _ _ (by first | (simp; done) | (simp; omega))]; exact hp.1
  · by_cases e : j = i
    · subst e
      rw [if_pos (by omega)]
      exact World.cell?_setCell_same _ _ _ (World.cell?_setCell_same _ _ _ (hp.2 j hj).1)
    · rw [World.cell?_setCell_other _ _ _ _ (by first | (simp; done) | (simp; omega)), World.cell?_setCell_other _ _ _ _ (by first | (simp; done) | (simp; omega)), (hp.2 j hj).1]
      by_cases hlt : j < i
      · rw [if_pos hlt, if_pos (by omega)]
      · rw [if_neg hlt, if_neg (by omega)]

set_option maxRecDepth 100000 in
set_option maxHeartbeats 40000000 in
theorem grown_any {W0 w : World} {s hb t bn bm sz cb co len ccap : Nat} {od : Ord 4} {V : Int → Option Fun} {ms : List Md} {v : Value} {zs : Nat → Int} (hS : St w s hb t bn bm od 4 sz 2000 4 V 500000) (hG : Good V ms) (hml : ms.length = 4) (hown : w.ownsRow W0.heap.size 31 17 v 4 (flat ms)) (hsep : ∀ g, v.ownBlock = some g → g ∉ [s, hb, t, bn, bm, od.blk])
    (hW0 : Keeps [] W0 w) (hs0 : ∀ i ∈ [s, hb, t, bn, bm, od.blk], W0.heap.size ≤ i) (hcode : IntsAt W0 cb co len zs) :
    Calls Try.prog 10 #[.pointer (some ⟨s, 0, none⟩), v, .slice (some ⟨cb, co, none⟩) len ccap] w fun e w' => ∃ n v' ms' V' sz', e = .returned v' ∧ 4 ≤ n ∧ n ≤ 28 ∧ St w' s hb t bn bm od n sz' 2000 n V' (500000 + 100000 * n) ∧ Good V' ms' ∧ ms'.length = n ∧ w'.ownsRow W0.heap.size 31 17 v' n (flat ms') ∧ (∀ g, v'.ownBlock = some g → g ∉ [s, hb, t, bn, bm, od.blk]) ∧ Keeps [] W0 w' := by
  obtain ⟨i0, hi0, hz0, hz1, hz2⟩ := info_parts info34
  have hmx : 1000 < maxLen := by decide
  go_enter Try.func10, Try.ntmps10
  go_wp2_with fail
  go_loopw [1, 7] (fun x i wr => ∃ (k n : Nat) (ms : List Md) (V : Int → Option Fun) (sz : Nat), k ≤ len ∧ k ≤ 24 ∧ n = 4 + k ∧ i = .int .i64 k ∧ St wr s hb t bn bm od n sz 2000 n V (500000 + 100000 * n) ∧ Good V ms ∧ ms.length = n ∧ wr.ownsRow W0.heap.size 31 17 x n (flat ms) ∧ (∀ g, x.ownBlock = some g → g ∉ [s, hb, t, bn, bm, od.blk]) ∧ Keeps [] W0 wr)
    (fun _ i _ => 24 - (intOf i).toNat)
  case atStart =>
    refine ⟨0, 4, ms, V, sz, by omega, by omega, rfl, rfl, ?_, hG, hml, hown, hsep, hW0⟩
    obtain ⟨N, last, H, z1, z2, z3, z4, z5, z6, z7⟩ := hS
    exact ⟨N, last, H, z1, z2, z3, by omega, z5, z6, z7⟩
  case round =>
    clear hS hG hml hown hsep hW0
    obtain ⟨k, n, ms, V, sz, hk1, hk2, hn, rfl, hS, hG, hml, hown, hsep, hW0⟩ := hrel
    by_cases hlt : k < len ∧ k < 24
    · obtain ⟨g, cap, hv, hbg, hlg⟩ : ∃ g cap, u1 = .slice (some ⟨g, 0, none⟩) n cap ∧ W0.heap.size ≤ g ∧ g < wr.heap.size := by
        rcases hown.2 with ⟨_, h0⟩ | ⟨g, cap, cur, hv, hb', hg', _⟩
        · omega
        · exact ⟨g, cap, hv, hb', (Array.getElem?_eq_some_iff.1 hg').1⟩
      rw [hv] at hown hsep ⊢
      clear hv
      have hlt1 : (k : Int) < (len : Int) := by omega
      have hlt2 : (k : Int) < 24 := by omega
      have hk0 : (0 : Int) ≤ (k : Int) := by omega
      have hcell := hW0.cell (hcode k hlt.1).1 (by simp)
      have hfitz := (hcode k hlt.1).2
      have hcbl : cb < wr.heap.size := cell_lt (p := ⟨cb, co + k, none⟩) hcell
      have hn0 : (4 : Int) ≤ (n : Int) := by omega
      have hn28 : (n : Int) < 28 := by omega
      have HG : Hid (Good V ms) := hG
      have Hm : Hid (ms.length = n) := hml
      have Hn : Hid (n = 4 + k) := hn
      clear hG hml hn
      go_wp2_with fail
      refine (pick_any hfitz (by omega) (by omega)).mono ?_
      rintro e w1 ⟨⟨c, rfl, hc0, hc1⟩, rfl⟩
      have hnz : ((n : Int) == 0) = false := by simp; omega
      obtain ⟨kf, hkf⟩ := Int.eq_ofNat_of_zero_le (Int.emod_nonneg (c / 8) (b := (n : Int)) (by omega))
      obtain ⟨kg, hkg⟩ := Int.eq_ofNat_of_zero_le (Int.emod_nonneg (c / 64) (b := (n : Int)) (by omega))
      obtain ⟨kh, hkh⟩ := Int.eq_ofNat_of_zero_le (Int.emod_nonneg (c / 512) (b := (n : Int)) (by omega))
      have lf : kf < n := by have := Int.emod_lt_of_pos (c / 8) (b := (n : Int)) (by omega); omega
      have lg : kg < n := by have := Int.emod_lt_of_pos (c / 64) (b := (n : Int)) (by omega); omega
      have lh : kh < n := by have := Int.emod_lt_of_pos (c / 512) (b := (n : Int)) (by omega); omega
      have lf' : (kf : Int) < (n : Int) := by omega
      have lg' : (kg : Int) < (n : Int) := by omega
      have lh' : (kh : Int) < (n : Int) := by omega
      obtain ⟨mf, hmf⟩ : ∃ m, m = ms[kf]'(by rw [Hm.out]; exact lf) := ⟨_, rfl⟩
      obtain ⟨mg, hmg⟩ : ∃ m, m = ms[kg]'(by rw [Hm.out]; exact lg) := ⟨_, rfl⟩
      obtain ⟨mh, hmh⟩ : ∃ m, m = ms[kh]'(by rw [Hm.out]; exact lh) := ⟨_, rfl⟩
      have rf : wr.rangeAt g (kf * 17) (mL mf) := by rw [hmf]; exact range_of hown Hm.out kf _
      have rg : wr.rangeAt g (kg * 17) (mL mg) := by rw [hmg]; exact range_of hown Hm.out kg _
      have rh : wr.rangeAt g (kh * 17) (mL mh) := by rw [hmh]; exact range_of hown Hm.out kh _
      have Hf : Hid (mf = ms[kf]'(by rw [Hm.out]; exact lf)) := hmf
      have Hg : Hid (mg = ms[kg]'(by rw [Hm.out]; exact lg)) := hmg
      have Hh : Hid (mh = ms[kh]'(by rw [Hm.out]; exact lh)) := hmh
      clear hmf hmg hmh
      obtain ⟨W1, hW1⟩ : ∃ W1, W1 = wr.alloc (.cells (mA mf.1 mf.2) 31) := ⟨_, rfl⟩
      obtain ⟨W2, hW2⟩ : ∃ W2, W2 = W1.alloc (.cells (mA mg.1 mg.2) 31) := ⟨_, rfl⟩
      obtain ⟨W3, hW3⟩ : ∃ W3, W3 = W2.alloc (.cells (mA mh.1 mh.2) 31) := ⟨_, rfl⟩
      obtain ⟨W4, hW4⟩ : ∃ W4, W4 = W3.alloc (.cells #[.int .i64 0, .bool false, .bool false, .bool false, .bool false, .bool false, .bool false, .bool false, .bool false, .bool false, .bool false, .bool false, .bool false, .bool false, .bool false, .bool false, .bool false] 31) := ⟨_, rfl⟩
      have y1 : Keeps [] wr W1 := by rw [hW1]; exact (Keeps.refl _ _).alloc _
      have y2 : Keeps [] W1 W2 := by rw [hW2]; exact (Keeps.refl _ _).alloc _
      have y3 : Keeps [] W2 W3 := by rw [hW3]; exact (Keeps.refl _ _).alloc _
      have y4 : Keeps [] W3 W4 := by rw [hW4]; exact (Keeps.refl _ _).alloc _
      have x1 : wr.heap.size < W1.heap.size := by rw [hW1]; simp
      have x2 : W1.heap.size < W2.heap.size := by rw [hW2]; simp
      have x3 : W2.heap.size < W3.heap.size := by rw [hW3]; simp
      have x4 : W3.heap.size < W4.heap.size := by rw [hW4]; simp
      have hF1 : Full W1 wr.heap.size mf := by rw [hW1]; exact full_start _ _
      have hF2 : Full W2 W1.heap.size mg := by rw [hW2]; exact full_start _ _
      have hF3 : Full W3 W2.heap.size mh := by rw [hW3]; exact full_start _ _
      have hP4 : Part W4 W3.heap.size 0 (newt c mf.2 mg.2 mh.2) 0 := by rw [hW4]; exact part_start _ _ _
      have hfz : W4.frozen? ⟨W3.heap.size, 0, none⟩ = false := by rw [hW4]; simp
      have rg1 : W1.rangeAt g (kg * 17) (mL mg) := by rw [hW1]; exact World.rangeAt_alloc rg _
      have rh2 : W2.rangeAt g (kh * 17) (mL mh) := by rw [hW2, hW1]; exact World.rangeAt_alloc (World.rangeAt_alloc rh _) _
      have H1 : Hid (W1 = wr.alloc (.cells (mA mf.1 mf.2) 31)) := hW1
      have H2 : Hid (W2 = W1.alloc (.cells (mA mg.1 mg.2) 31)) := hW2
      have H3 : Hid (W3 = W2.alloc (.cells (mA mh.1 mh.2) 31)) := hW3
      have H4 : Hid (W4 = W3.alloc (.cells #[.int .i64 0, .bool false, .bool false, .bool false, .bool false, .bool false, .bool false, .bool false, .bool false, .bool false, .bool false, .bool false, .bool false, .bool false, .bool false, .bool false, .bool false] 31)) := hW4
      clear hW1 hW2 hW3 hW4 rg rh
      have y14 : Keeps [] wr W4 := ((y1.trans y2).trans y3).trans y4
      have hFour : Four W0 W4 g n cap wr.heap.size W1.heap.size W2.heap.size W3.heap.size ms mf mg mh :=
        ⟨hF1.keeps ((y2.trans y3).trans y4) (by simp), hF2.keeps (y3.trans y4) (by simp), hF3.keeps y4 (by simp), ownsRow_keeps hown y14 (by simp), hW0.trans y14, by omega, by omega, by omega, hlg, x4, hW0.size⟩
      have hS4 := hS.keeps y14
      have hlts := hS.lts
      obtain ⟨ef, Ff, hVf, hFf, _⟩ := HG.out kf (by rw [Hm.out]; exact lf)
      obtain ⟨eg, Fg, hVg, hFg, _⟩ := HG.out kg (by rw [Hm.out]; exact lg)
      obtain ⟨eh, Fh, hVh, hFh, _⟩ := HG.out kh (by rw [Hm.out]; exact lh)
      rw [← Hf.out] at ef hFf
      rw [← Hg.out] at eg hFg
      rw [← Hh.out] at eh hFh
      rw [← ef] at hVf
      rw [← eg] at hVg
      rw [← eh] at hVh
      have HVf : Hid (V mf.1 = some Ff) := hVf
      have HVg : Hid (V mg.1 = some Fg) := hVg
      have HVh : Hid (V mh.1 = some Fh) := hVh
      have HFf : Hid (∀ i, i < 16 → Ff (asg i) = mf.2 i) := hFf
      have HFg : Hid (∀ i, i < 16 → Fg (asg i) = mg.2 i) := hFg
      have HFh : Hid (∀ i, i < 16 → Fh (asg i) = mh.2 i) := hFh
      clear ef eg eh hVf hVg hVh hFf hFg hFh
      have hsepg : g ∉ [s, hb, t, bn, bm, od.blk] := hsep g rfl
      go_upto_region 6 with (first
        | (refine wpList_load_mid rfl 31 _ rfl g (kf * 17) rfl _ _ rf Try.underlying31 rfl size34 ?_)
        | (refine wpList_store_mid rfl 31 _ _ rfl wr.heap.size 0 (mA mf.1 mf.2) rfl rfl (there34 wr zA 17 (by decide)) size34 (one34 _ _) ?_; rw [store34, ← H1.out])
        | fail)
      go_frame
      go_upto_region 7 with (first
        | (refine wpList_load_mid rfl 31 _ rfl g (kg * 17) rfl _ _ rg1 Try.underlying31 rfl size34 ?_)
        | (refine wpList_store_mid rfl 31 _ _ rfl W1.heap.size 0 (mA mg.1 mg.2) rfl rfl (there34 W1 zA 17 (by decide)) size34 (one34 _ _) ?_; rw [store34, ← H2.out])
        | fail)
      go_frame
      go_upto_region 8 with (first
        | (refine wpList_load_mid rfl 31 _ rfl g (kh * 17) rfl _ _ rh2 Try.underlying31 rfl size34 ?_)
        | (refine wpList_store_mid rfl 31 _ _ rfl W2.heap.size 0 (mA mh.1 mh.2) rfl rfl (there34 W2 zA 17 (by decide)) size34 (one34 _ _) ?_; rw [store34, ← H3.out])
        | fail)
      go_frame
      go_upto_block 2 with (first
        | (refine wpList_store_mid rfl 31 _ _ rfl W3.heap.size 0 zA rfl rfl (there34 W3 zA 17 (by decide)) size34 (one34 0 (fun _ => false)) ?_; rw [store34 W3 0 (fun _ => false), ← H4.out])
        | fail)
      clear hF1 hF2 hF3 rf rg1 rh2 hown hS H1 H2 H3 H4 hcell hlt1 hlt2 hcbl hkf hkg hkh lf' lg' lh' y1 y2 y3 y4
      go_cut [13] (fun e wc => e = .int .i64 0 ∧ Mid1 W0 s hb t bn bm od g n cap wr.heap.size W1.heap.size W2.heap.size W3.heap.size ms mf mg mh V c wc)
      case first =>
        as_aux_lemma =>
        have v1 := hFour.ff.1
        have v2 := hFour.fg.1
        have v3 := hFour.fh.1
        have hc8 := Int.emod_lt_of_pos c (b := 8) (by omega)
        have hc80 := Int.emod_nonneg c (b := 8) (by omega)
        have nBm : W3.heap.size ∉ [s, hb, t, bn, bm, od.blk] := fun hin => by have := hlts _ hin; omega
        by_cases q1 : c % 8 < 4
        · go_wp2_with fail
          refine (apply_any (what := c % 8) hS4 HVf.out HVg.out hc80 (by omega) (by omega) (by omega)).mono ?_
          intro e w6 hh
          obtain ⟨rfl, ⟨sz6, hS6⟩, hk6⟩ := hh.ok (by omega) (by simp [pw]; omega)
          clear hh
          have p1 := (hP4.keeps hk6 nBm).1
          have p2 : w6.frozen? ⟨W3.heap.size, 0, none⟩ = false := (hk6.frozen (p := ⟨W3.heap.size, 0, none⟩) x4 nBm).trans hfz
          go_wp2_with fail
          go_meet
          exact ⟨rfl, mid1_mk hFour hP4 hlts hs0 hsepg (by omega) (by omega) hk6 hS6 (fun i hi => by rw [newt_app q1]; simp only [HFf.out i hi, HFg.out i hi])⟩
        · by_cases q2 : c % 8 < 6
          · go_wp2_with fail
            refine (choosec_any hS4 HVf.out HVg.out HVh.out (by omega) (by omega)).mono ?_
            intro e w6 hh
            obtain ⟨rfl, ⟨sz6, hS6⟩, hk6⟩ := hh.ok (by omega) (by simp [pw]; omega)
            clear hh
            have p1 := (hP4.keeps hk6 nBm).1
            have p2 : w6.frozen? ⟨W3.heap.size, 0, none⟩ = false := (hk6.frozen (p := ⟨W3.heap.size, 0, none⟩) x4 nBm).trans hfz
            go_wp2_with fail
            go_meet
            exact ⟨rfl, mid1_mk hFour hP4 hlts hs0 hsepg (by omega) (by omega) hk6 hS6 (fun i hi => by rw [newt_cho (by omega) (by omega)]; simp only [HFf.out i hi, HFg.out i hi, HFh.out i hi])⟩
          · by_cases q3 : c % 8 = 6
            · have q3' : (c % 8 == 6) = true := by simp [q3]
              have Q3 : Hid (c % 8 = 6) := q3
              have Q1 : Hid (¬ c % 8 < 4) := q1
              have Q2 : Hid (¬ c % 8 < 6) := q2
              clear q3
              go_wp2_with fail
              refine (not_any hS4 HVf.out (by omega) (by omega)).mono ?_
              intro e w6 hh
              obtain ⟨rfl, ⟨sz6, hS6⟩, hk6⟩ := hh.ok (by omega) (by simp [pw]; omega)
              clear hh
              have p1 := (hP4.keeps hk6 nBm).1
              have p2 : w6.frozen? ⟨W3.heap.size, 0, none⟩ = false := (hk6.frozen (p := ⟨W3.heap.size, 0, none⟩) x4 nBm).trans hfz
              go_wp2_with fail
              go_meet
              exact ⟨rfl, mid1_mk hFour hP4 hlts hs0 hsepg (by omega) (by omega) hk6 hS6 (fun i hi => by rw [newt_not Q3.out]; simp only [HFf.out i hi])⟩
            · have q3' : (c % 8 == 6) = false := by simp [q3]
              have Q3 : Hid (¬ c % 8 = 6) := q3
              have Q1 : Hid (¬ c % 8 < 4) := q1
              have Q2 : Hid (¬ c % 8 < 6) := q2
              clear q3
              go_wp2_with fail
              refine (constant_any hS4 (c / 8 % 2 == 1) (by omega)).mono ?_
              intro e w6 hh
              obtain ⟨rfl, ⟨sz6, hS6⟩, hk6⟩ := hh.ok (by omega) (by simp [pw]; omega)
              clear hh
              have p1 := (hP4.keeps hk6 nBm).1
              have p2 : w6.frozen? ⟨W3.heap.size, 0, none⟩ = false := (hk6.frozen (p := ⟨W3.heap.size, 0, none⟩) x4 nBm).trans hfz
              go_wp2_with fail
              go_meet
              exact ⟨rfl, mid1_mk hFour hP4 hlts hs0 hsepg (by omega) (by omega) hk6 hS6 (fun i hi => by rw [newt_con (by omega) (by omega) Q3.out])⟩
      case rest =>
        as_aux_lemma =>
        obtain ⟨rfl, hM⟩ := hcut
        generalize hBf : wr.heap.size = Bf at *
        clear hBf
        obtain ⟨h4, hP, hl, F, sz6, hS6, hF⟩ := hM
        have HF : Hid (∀ i, i < 16 → F (asg i) = newt c mf.2 mg.2 mh.2 i) := hF
        have hc8 := Int.emod_lt_of_pos c (b := 8) (by omega)
        have hc80 := Int.emod_nonneg c (b := 8) (by omega)
        clear hF hFour hP4 hfz hS4
        have b1 := h4.lf
        have b2 := h4.lg
        have b3 := h4.lh
        have b4 := h4.lgg
        have b5 := h4.lm
        have b6 := h4.l0
        go_wp2_with fail
        go_loopw [15] (fun y wq => ∃ i : Nat, i ≤ 16 ∧ y = .int .i64 i ∧ Part wq W3.heap.size ((n : Int) + 1) (newt c mf.2 mg.2 mh.2) i ∧ Keeps [W3.heap.size] wc wq) (fun y _ => 16 - (intOf y).toNat)
        case atStart => exact ⟨0, by omega, rfl, hP, Keeps.refl _ _⟩
        case round =>
          clear hP
          obtain ⟨i, hi, rfl, hp, hkq⟩ := hrel
          by_cases hlti : i < 16
          · have hi0 : (0 : Int) ≤ (i : Int) := by omega
            have hi1 : (i : Int) < 16 := by omega
            have p1 := (hp.2 i hlti).1
            have p2 := (hp.2 i hlti).2
            rw [if_neg (by omega)] at p1
            have e1 := hkq.cell (h4.ff.2 i hlti) (by simp; omega)
            have e2 := hkq.cell (h4.fg.2 i hlti) (by simp; omega)
            have e3 := hkq.cell (h4.fh.2 i hlti) (by simp; omega)
            by_cases q1 : c % 8 < 4
            · as_aux_lemma =>
              have HN : Hid (newt c mf.2 mg.2 mh.2 i = app (c % 8) (mf.2 i) (mg.2 i)) := newt_app q1 _ _ _ _
              have hpd := part_step (hp.keeps ((Keeps.refl [] _).drew) (by simp)) hlti
              rw [HN.out] at hpd
              have HP := (show Hid _ from hpd)
              clear hpd
              have k1 : ∀ v, (wr.setCell ⟨W3.heap.size, 1 + i, none⟩ v).cell? ⟨Bf, 1 + i, none⟩ = some (.bool (mf.2 i)) := fun v => (World.cell?_setCell_far wr ⟨W3.heap.size, 1 + i, none⟩ ⟨Bf, 1 + i, none⟩ v (by show W3.heap.size ≠ Bf; omega)).trans e1
              have k2 : ∀ v, (wr.setCell ⟨W3.heap.size, 1 + i, none⟩ v).cell? ⟨W1.heap.size, 1 + i, none⟩ = some (.bool (mg.2 i)) := fun v => (World.cell?_setCell_far wr ⟨W3.heap.size, 1 + i, none⟩ ⟨W1.heap.size, 1 + i, none⟩ v (by show W3.heap.size ≠ W1.heap.size; omega)).trans e2
              go_wp2_with fail
              go_region_held3 (fun w' => w'.cell? ⟨Bf, 1 + i, none⟩ = some (.bool (mf.2 i)) ∧ w'.cell? ⟨W1.heap.size, 1 + i, none⟩ = some (.bool (mg.2 i)))
                (first | exact ⟨e1, e2⟩ | exact ⟨k1 _, k2 _⟩ | assumption)
                (first
                  | (go_at_call 34; refine (combined_any hc80 q1 _ _).mono ?_; rintro e w5 ⟨rfl, rfl⟩))
              go_wp2_with fail
              go_roundw
              case rel => exact ⟨i + 1, by omega, by go_num, HP.out, (hkq.drew).setCell _ (Or.inl (by simp)) _⟩
              case measure => simp [intOf]; omega
            · by_cases q2 : c % 8 < 6
              · have HN : Hid (newt c mf.2 mg.2 mh.2 i = if mf.2 i then mg.2 i else mh.2 i) := newt_cho q1 q2 _ _ _ _
                cases hfi : mf.2 i with
                | true =>
                  as_aux_lemma =>
                  have hpd := part_step2 hp hlti (mh.2 i)
                  rw [HN.out, hfi, if_pos rfl] at hpd
                  rw [hfi] at e1
                  have HP := (show Hid _ from hpd)
                  have k1 : ∀ v, (wr.setCell ⟨W3.heap.size, 1 + i, none⟩ v).cell? ⟨Bf, 1 + i, none⟩ = some (.bool true) := fun v => (World.cell?_setCell_far wr ⟨W3.heap.size, 1 + i, none⟩ ⟨Bf, 1 + i, none⟩ v (by show W3.heap.size ≠ Bf; omega)).trans e1
                  have k2 : ∀ v, (wr.setCell ⟨W3.heap.size, 1 + i, none⟩ v).cell? ⟨W1.heap.size, 1 + i, none⟩ = some (.bool (mg.2 i)) := fun v => (World.cell?_setCell_far wr ⟨W3.heap.size, 1 + i, none⟩ ⟨W1.heap.size, 1 + i, none⟩ v (by show W3.heap.size ≠ W1.heap.size; omega)).trans e2
                  have k3 : ∀ v, (wr.setCell ⟨W3.heap.size, 1 + i, none⟩ v).cell? ⟨W3.heap.size, 1 + i, none⟩ = some v := fun v => World.cell?_setCell_same _ _ _ p1
                  clear hpd hfi
                  go_wp2_with fail
                  go_roundw
                  case rel => exact ⟨i + 1, by omega, by go_num, HP.out, (hkq.setCell _ (Or.inl (by simp)) _).setCell _ (Or.inl (by simp)) _⟩
                  case measure => simp [intOf]; omega
                | false =>
                  as_aux_lemma =>
                  have hpd := part_step hp hlti
                  rw [HN.out, hfi, if_neg (by simp)] at hpd
                  rw [hfi] at e1
                  have HP := (show Hid _ from hpd)
                  have k1 : ∀ v, (wr.setCell ⟨W3.heap.size, 1 + i, none⟩ v).cell? ⟨Bf, 1 + i, none⟩ = some (.bool false) := fun v => (World.cell?_setCell_far wr ⟨W3.heap.size, 1 + i, none⟩ ⟨Bf, 1 + i, none⟩ v (by show W3.heap.size ≠ Bf; omega)).trans e1
                  clear hpd hfi
                  go_wp2_with fail
                  go_roundw
                  case rel => exact ⟨i + 1, by omega, by go_num, HP.out, hkq.setCell _ (Or.inl (by simp)) _⟩
                  case measure => simp [intOf]; omega
              · by_cases q3 : c % 8 = 6
                · as_aux_lemma =>
                  have hpd := part_step hp hlti
                  rw [newt_not q3] at hpd
                  have HP := (show Hid _ from hpd)
                  have q3' : (c % 8 == 6) = true := by simp [q3]
                  clear hpd q3
                  go_wp2_with fail
                  go_roundw
                  case rel => exact ⟨i + 1, by omega, by go_num, HP.out, hkq.setCell _ (Or.inl (by simp)) _⟩
                  case measure => simp [intOf]; omega
                · as_aux_lemma =>
                  have hpd := part_step hp hlti
                  rw [newt_con q1 q2 q3] at hpd
                  have HP := (show Hid _ from hpd)
                  have q3' : (c % 8 == 6) = false := by simp [q3]
                  clear hpd q3
                  go_wp2_with fail
                  go_roundw
                  case rel => exact ⟨i + 1, by omega, by go_num, HP.out, hkq.setCell _ (Or.inl (by simp)) _⟩
                  case measure => simp [intOf]; omega
          · as_aux_lemma =>
            have e : i = 16 := by omega
            subst e
            generalize newt c mf.2 mg.2 mh.2 = tt at *
            have hrange := part_full hp
            have hqs := hkq.size
            have hownq : wr.ownsRow W0.heap.size 31 17 (.slice (some ⟨g, 0, none⟩) n cap) n (flat ms) := ownsRow_keeps h4.own hkq (fun g' eg => by simp [Value.ownBlock] at eg; subst eg; simp; omega)
            have hkW : Keeps [] W0 wr := ((h4.keep.mono (by simp)).trans hkq).strike (by simp; omega)
            have hbq := hkW.size
            have hS7 := hS6.keepsS hkq (fun x hx hin => by simp at hin; subst hin; have := hl _ hx; omega)
            clear hp
            go_upto_region 33 with fail
            go_step
            refine append_ops (base := W0.heap.size) (n := n) (cap := cap) (g := g) (B := W3.heap.size) (ms := ms) (h := (n : Int) + 1) (tt := tt) rfl rfl rfl rfl rfl rfl rfl rfl rfl rfl rfl rfl rfl rfl rfl rfl rfl rfl hrange hownq (by omega) hbq ?_
            intro v' w5 hown' hgrow hloc
            simp only [Act.put, List.setIfInBounds_toArray, set_cons16]
            simp only [List.set_cons_succ, List.set_cons_zero]
            go_wp2_with fail
            go_roundw
            case rel =>
              have hm := Hm.out
              have hn' := Hn.out
              refine ⟨k + 1, n + 1, ms ++ [((ms.length : Int) + 1, tt)], addV V ((ms.length : Int) + 1) F, sz6, by omega, by omega, by omega, by go_num, ?_, good_add HG.out HF.out (fun h => by omega), by simp [hm], ?_, ?_, ?_⟩
              · have e1 : ((500000 : Int) + 100000 * ((n + 1 : Nat) : Int)) = 500000 + 100000 * (n : Int) + 100000 := by omega
                have e2 : (((n + 1 : Nat)) : Int) = (n : Int) + 1 := by omega
                rw [e1, e2, hm]
                exact (hS7.keeps ((Keeps.refl [] wr).alloc _)).grown hgrow hsep
              · rw [flat_snoc, hm]; exact hown'
              · intro g' hg'
                rcases hloc with e | e
                · rw [e] at hg'; exact hsep g' hg'
                · rw [e] at hg'
                  cases hg'
                  intro hin
                  have := hS7.lts _ hin
                  omega
              · exact (hkW.alloc _).grown hgrow (fun g' hg' => Or.inr (hownq.lt g' hg').1)
            case measure => simp [intOf]; omega
    · go_wp2_with fail
      all_goals
        go_ret
        exact ⟨n, u1, ms, V, sz, rfl, by omega, by omega, hS, hG, hml, hown, hsep, hW0⟩

end Go.Proofs.Ytmgjegokkbghlaa
