/- The walk of choose: where it goes on. -/
import Derived.Test.YtmgjegokkbghlaaGreatDoorChoose
namespace Go.Proofs.YtmgjegokkbghlaaGreatDoor
open Go.RowKit Go.Maps Bdd
attribute [local go_sem ↓] Go.wp_at_zero Go.wp_at_succ

def pw : Nat → Nat
  | 0 => 1
  | k + 1 => 2 * pw k
theorem pw_pos : ∀ k, 1 ≤ pw k
  | 0 => Nat.le_refl _
  | k + 1 => by have := pw_pos k; simp only [pw]; omega

def ChooseSaid (k : Nat) : Prop := ∀ (w : World) (t bn bm bd sz n : Nat) (N : Tab) (top last : Int) (G : Value → Option Value) (l f g h : Int),
  TabAt w t bn bm sz N top last → MapIs w Tryz.prog 160 bd n G → DoneOk N G → bd ≠ bn → bd ≠ bm → 0 ≤ l → top - l ≤ k → Ok N l f → Ok N l g → Ok N l h → last + (pw k : Int) ≤ 4611686018427387904 → sz + pw k < maxLen → n + pw k < maxLen →
  Calls Tryz.prog 68 #[.pointer (some ⟨t, 0, none⟩), trip f g h, .map (some bd)] w fun e w' => ∃ r N' last' sz' n' G', e = .returned (.int .i64 r) ∧ TabAt w' t bn bm sz' N' top last' ∧ MapIs w' Tryz.prog 160 bd n' G' ∧ DoneOk N' G' ∧ Sub N N' ∧ Ok N' l r ∧
    (∀ a, E N' r a = if E N f a then E N g a else E N h a) ∧ last ≤ last' ∧ last' + 1 ≤ last + (pw k : Int) ∧ sz' + 1 ≤ sz + pw k ∧ n' + 1 ≤ n + pw k ∧ Keeps [t, bn, bm, bd] w w'

theorem ChooseSaid.at {k : Nat} (IH : ChooseSaid k) {w : World} {t bn bm bd sz n : Nat} {N : Tab} {top last : Int} {G : Value → Option Value} (l f g h : Int)
  (h1 : TabAt w t bn bm sz N top last) (h2 : MapIs w Tryz.prog 160 bd n G) (h3 : DoneOk N G) (h4 : bd ≠ bn) (h5 : bd ≠ bm) (h6 : 0 ≤ l) (h7 : top - l ≤ k) (h8 : Ok N l f) (h9 : Ok N l g) (h10 : Ok N l h) (h11 : last + (pw k : Int) ≤ 4611686018427387904) (h12 : sz + pw k < maxLen) (h13 : n + pw k < maxLen) :
  Calls Tryz.prog 68 #[.pointer (some ⟨t, 0, none⟩), .agg #[.int .i64 f, .int .i64 g, .int .i64 h], .map (some bd)] w fun e w' => ∃ r N' last' sz' n' G', e = .returned (.int .i64 r) ∧ TabAt w' t bn bm sz' N' top last' ∧ MapIs w' Tryz.prog 160 bd n' G' ∧ DoneOk N' G' ∧ Sub N N' ∧ Ok N' l r ∧
    (∀ a, E N' r a = if E N f a then E N g a else E N h a) ∧ last ≤ last' ∧ last' + 1 ≤ last + (pw k : Int) ∧ sz' + 1 ≤ sz + pw k ∧ n' + 1 ≤ n + pw k ∧ Keeps [t, bn, bm, bd] w w' :=
  IH w t bn bm bd sz n N top last G l f g h h1 h2 h3 h4 h5 h6 h7 h8 h9 h10 h11 h12 h13
theorem join_at {w : World} {t bn bm sz : Nat} {N : Tab} {top last : Int} (h : TabAt w t bn bm sz N top last) (l x y : Int) (hl0 : 0 ≤ l) (hl1 : l < top) (hx : Ok N (l + 1) x) (hy : Ok N (l + 1) y) (hlast : last + 1 ≤ 4611686018427387904) (hsz : sz + 1 < maxLen) :
    Calls Tryz.prog 67 #[.pointer (some ⟨t, 0, none⟩), .agg #[.int .i64 l, .int .i64 x, .int .i64 y]] w fun e w' => ∃ r N' last' sz', e = .returned (.int .i64 r) ∧ TabAt w' t bn bm sz' N' top last' ∧ Sub N N' ∧ Ok N' l r ∧ (∀ a, E N' r a = if a l then E N y a else E N x a) ∧ last ≤ last' ∧ last' ≤ last + 1 ∧ sz' ≤ sz + 1 ∧ Keeps [t, bn, bm] w w' :=
  join_any h hl0 hl1 hx hy hlast hsz

theorem DoneOk.set {N : Tab} {G : Value → Option Value} (h : DoneOk N G) {f g c r : Int} (h1 : Ok N 0 f) (h2 : Ok N 0 g) (h3 : Ok N 0 c) (h4 : Ok N 0 r) (h5 : ∀ l, Ok N l f → Ok N l g → Ok N l c → Ok N l r) (h6 : ∀ a, E N r a = if E N f a then E N g a else E N c a) :
    DoneOk N (setG G (trip f g c) (some (.int .i64 r))) := by
  intro f' g' c' v hv
  by_cases e : trip f' g' c' = trip f g c
  · obtain ⟨rfl, rfl, rfl⟩ := trip_inj e
    rw [setG_same] at hv
    cases hv
    exact ⟨r, rfl, h1, h2, h3, h4, h5, h6⟩
  · rw [setG_other _ _ e] at hv
    exact h f' g' c' v hv

/-- the box of a choice, and all that was there -/
abbrev Boxed (W : World) (B : Nat) (f g h : Int) (w' : World) : Prop := w'.cell? ⟨B, 0, none⟩ = some (.int .i64 f) ∧ w'.cell? ⟨B, 1, none⟩ = some (.int .i64 g) ∧ w'.cell? ⟨B, 2, none⟩ = some (.int .i64 h) ∧ Keeps [] W w'
theorem boxed_keep {W a b : World} {B : Nat} {f g h : Int} (hk : Keeps [] a b) (hS : Boxed W B f g h a) : Boxed W B f g h b :=
  ⟨hk.cell hS.1 (by simp), hk.cell hS.2.1 (by simp), hk.cell hS.2.2.1 (by simp), hS.2.2.2.trans hk⟩
theorem boxed_tab {W a : World} {B : Nat} {f g h : Int} {t bn bm sz : Nat} {N : Tab} {top last : Int} (hT : TabAt W t bn bm sz N top last) (hS : Boxed W B f g h a) : TabAt a t bn bm sz N top last := hT.grow hS.2.2.2

/-- the least of three, as min reckons it -/
def mn (a b c : Int) : Int := if c < if b < a then b else a then c else if b < a then b else a
theorem mn_le {a b c : Int} : mn a b c ≤ a ∧ mn a b c ≤ b ∧ mn a b c ≤ c := by unfold mn; split <;> split <;> omega
theorem mn_is {a b c : Int} : mn a b c = a ∨ mn a b c = b ∨ mn a b c = c := by unfold mn; split <;> split <;> omega

/-- two boxes more, at A and D -/
structure Mid (W : World) (B A D : Nat) (f g h l0 l1 l2 h0 h1 h2 : Int) (w' : World) : Prop where
  kb : Boxed W B f g h w'
  a0 : w'.cell? ⟨A, 0, none⟩ = some (.int .i64 l0)
  a1 : w'.cell? ⟨A, 1, none⟩ = some (.int .i64 l1)
  a2 : w'.cell? ⟨A, 2, none⟩ = some (.int .i64 l2)
  d0 : w'.cell? ⟨D, 0, none⟩ = some (.int .i64 h0)
  d1 : w'.cell? ⟨D, 1, none⟩ = some (.int .i64 h1)
  d2 : w'.cell? ⟨D, 2, none⟩ = some (.int .i64 h2)
  fa : ∀ i, w'.frozen? ⟨A, i, none⟩ = false
  fd : ∀ i, w'.frozen? ⟨D, i, none⟩ = false
  ne : A ≠ D
  lA : W.heap.size ≤ A
  lD : W.heap.size ≤ D
  lB : B < W.heap.size
theorem Mid.keep {W a b : World} {B A D : Nat} {f g h l0 l1 l2 h0 h1 h2 : Int} (m : Mid W B A D f g h l0 l1 l2 h0 h1 h2 a) (hk : Keeps [] a b) : Mid W B A D f g h l0 l1 l2 h0 h1 h2 b :=
  ⟨boxed_keep hk m.kb, hk.cell m.a0 (by simp), hk.cell m.a1 (by simp), hk.cell m.a2 (by simp), hk.cell m.d0 (by simp), hk.cell m.d1 (by simp), hk.cell m.d2 (by simp),
    fun i => (hk.frozen (p := ⟨A, i, none⟩) (cell_lt (p := ⟨A, 0, none⟩) m.a0) (by simp)).trans (m.fa i), fun i => (hk.frozen (p := ⟨D, i, none⟩) (cell_lt (p := ⟨D, 0, none⟩) m.d0) (by simp)).trans (m.fd i), m.ne, m.lA, m.lD, m.lB⟩
theorem two_cell {a : World} {A D i : Nat} {x y v : Value} {p : Addr} (h1 : p ≠ ⟨A, i, none⟩) (h2 : p ≠ ⟨D, i, none⟩) (h : a.cell? p = some v) : ((a.setCell ⟨A, i, none⟩ x).setCell ⟨D, i, none⟩ y).cell? p = some v := by
  rw [World.cell?_setCell_other _ _ _ _ (Ne.symm h2), World.cell?_setCell_other _ _ _ _ (Ne.symm h1)]; exact h
theorem two_first {a : World} {A D i : Nat} {x y u : Value} (hne : A ≠ D) (h : a.cell? ⟨A, i, none⟩ = some u) : ((a.setCell ⟨A, i, none⟩ x).setCell ⟨D, i, none⟩ y).cell? ⟨A, i, none⟩ = some x := by
  rw [World.cell?_setCell_other _ _ _ _ (by first | (simp; done) | (simp; omega))]; exact World.cell?_setCell_same _ _ _ h
theorem two_second {a : World} {A D i : Nat} {x y u : Value} (hne : A ≠ D) (h : a.cell? ⟨D, i, none⟩ = some u) : ((a.setCell ⟨A, i, none⟩ x).setCell ⟨D, i, none⟩ y).cell? ⟨D, i, none⟩ = some y := by
  refine World.cell?_setCell_same _ _ _ (u := u) ?_
  rw [World.cell?_setCell_other _ _ _ _ (by first | (simp; done) | (simp; omega))]; exact h
theorem Mid.boxed2 {W a : World} {B A D : Nat} {f g h l0 l1 l2 h0 h1 h2 : Int} (m : Mid W B A D f g h l0 l1 l2 h0 h1 h2 a) (i : Nat) (x y : Value) : Boxed W B f g h ((a.setCell ⟨A, i, none⟩ x).setCell ⟨D, i, none⟩ y) := by
  have := m.lA; have := m.lD; have := m.lB
  obtain ⟨q0, q1, q2, q3⟩ := m.kb
  exact ⟨two_cell (by first | (simp; done) | (simp; omega)) (by first | (simp; done) | (simp; omega)) q0, two_cell (by first | (simp; done) | (simp; omega)) (by first | (simp; done) | (simp; omega)) q1, two_cell (by first | (simp; done) | (simp; omega)) (by first | (simp; done) | (simp; omega)) q2, (q3.setCell _ (Or.inr m.lA) _).setCell _ (Or.inr m.lD) _⟩
theorem Mid.set0 {W a : World} {B A D : Nat} {f g h l0 l1 l2 h0 h1 h2 : Int} (m : Mid W B A D f g h l0 l1 l2 h0 h1 h2 a) (x y : Int) : Mid W B A D f g h x l1 l2 y h1 h2 ((a.setCell ⟨A, 0, none⟩ (.int .i64 x)).setCell ⟨D, 0, none⟩ (.int .i64 y)) :=
  ⟨m.boxed2 0 _ _, two_first m.ne m.a0, two_cell (by simp) (by simp) m.a1, two_cell (by simp) (by simp) m.a2, two_second m.ne m.d0, two_cell (by simp) (by simp) m.d1, two_cell (by simp) (by simp) m.d2, fun i => by simp [m.fa], fun i => by simp [m.fd], m.ne, m.lA, m.lD, m.lB⟩
theorem Mid.set1 {W a : World} {B A D : Nat} {f g h l0 l1 l2 h0 h1 h2 : Int} (m : Mid W B A D f g h l0 l1 l2 h0 h1 h2 a) (x y : Int) : Mid W B A D f g h l0 x l2 h0 y h2 ((a.setCell ⟨A, 1, none⟩ (.int .i64 x)).setCell ⟨D, 1, none⟩ (.int .i64 y)) :=
  ⟨m.boxed2 1 _ _, two_cell (by simp) (by simp) m.a0, two_first m.ne m.a1, two_cell (by simp) (by simp) m.a2, two_cell (by simp) (by simp) m.d0, two_second m.ne m.d1, two_cell (by simp) (by simp) m.d2, fun i => by simp [m.fa], fun i => by simp [m.fd], m.ne, m.lA, m.lD, m.lB⟩
theorem Mid.set2 {W a : World} {B A D : Nat} {f g h l0 l1 l2 h0 h1 h2 : Int} (m : Mid W B A D f g h l0 l1 l2 h0 h1 h2 a) (x y : Int) : Mid W B A D f g h l0 l1 x h0 h1 y ((a.setCell ⟨A, 2, none⟩ (.int .i64 x)).setCell ⟨D, 2, none⟩ (.int .i64 y)) :=
  ⟨m.boxed2 2 _ _, two_cell (by simp) (by simp) m.a0, two_cell (by simp) (by simp) m.a1, two_first m.ne m.a2, two_cell (by simp) (by simp) m.d0, two_cell (by simp) (by simp) m.d1, two_second m.ne m.d2, fun i => by simp [m.fa], fun i => by simp [m.fd], m.ne, m.lA, m.lD, m.lB⟩
theorem Mid.start {W a : World} {B : Nat} {f g h : Int} (hb : Boxed W B f g h a) (hB : B < W.heap.size) :
    Mid W B a.heap.size (a.heap.size + 1) f g h 0 0 0 0 0 0 ((a.alloc (.cells #[.int .i64 0, .int .i64 0, .int .i64 0] 160)).alloc (.cells #[.int .i64 0, .int .i64 0, .int .i64 0] 160)) := by
  have hs := hb.2.2.2.size
  have hk : Keeps [] a ((a.alloc (.cells #[.int .i64 0, .int .i64 0, .int .i64 0] 160)).alloc (.cells #[.int .i64 0, .int .i64 0, .int .i64 0] 160)) := ((Keeps.refl _ _).alloc _).alloc _
  exact ⟨boxed_keep hk hb, by simp, by simp, by simp, by simp, by simp, by simp, fun i => by simp, fun i => by simp, by omega, by omega, by omega, hB⟩

/-- the two boxes of the parts while the parts are worked on -/
abbrev Two (V : World) (S : List Nat) (A D : Nat) (x0 x1 x2 y0 y1 y2 : Int) (w' : World) : Prop :=
  w'.cell? ⟨A, 0, none⟩ = some (.int .i64 x0) ∧ w'.cell? ⟨A, 1, none⟩ = some (.int .i64 x1) ∧ w'.cell? ⟨A, 2, none⟩ = some (.int .i64 x2) ∧ w'.cell? ⟨D, 0, none⟩ = some (.int .i64 y0) ∧ w'.cell? ⟨D, 1, none⟩ = some (.int .i64 y1) ∧ w'.cell? ⟨D, 2, none⟩ = some (.int .i64 y2) ∧ Keeps S V w'
theorem two_keep {V a b : World} {S : List Nat} {A D : Nat} {x0 x1 x2 y0 y1 y2 : Int} (hA : A ∉ S) (hD : D ∉ S) (hk : Keeps S a b) (hS : Two V S A D x0 x1 x2 y0 y1 y2 a) : Two V S A D x0 x1 x2 y0 y1 y2 b := by
  obtain ⟨h1, h2, h3, h4, h5, h6, h7⟩ := hS
  exact ⟨hk.cell h1 hA, hk.cell h2 hA, hk.cell h3 hA, hk.cell h4 hD, hk.cell h5 hD, hk.cell h6 hD, h7.trans hk⟩

set_option maxRecDepth 100000 in
set_option maxHeartbeats 2000000 in
theorem choose_rec (k : Nat) (IH : ChooseSaid k) {w : World} {t bn bm bd sz n : Nat} {N : Tab} {top last : Int} {G : Value → Option Value} {l f g c : Int}
    (hT : TabAt w t bn bm sz N top last) (hd : MapIs w Tryz.prog 160 bd n G) (hdone : DoneOk N G) (hnn : bd ≠ bn) (hnm : bd ≠ bm) (hl0 : 0 ≤ l) (hlk : top - l ≤ (k + 1 : Nat)) (hof : Ok N l f) (hog : Ok N l g) (hoc : Ok N l c)
    (hb1 : last + (pw (k + 1) : Int) ≤ 4611686018427387904) (hb2 : sz + pw (k + 1) < maxLen) (hb3 : n + pw (k + 1) < maxLen) (hG : G (trip f g c) = none) (h1 : f ≠ 1) (h0 : f ≠ 0) (hgh : g ≠ c) :
    Calls Tryz.prog 68 #[.pointer (some ⟨t, 0, none⟩), trip f g c, .map (some bd)] w fun e w' => ∃ r N' last' sz' n' G', e = .returned (.int .i64 r) ∧ TabAt w' t bn bm sz' N' top last' ∧ MapIs w' Tryz.prog 160 bd n' G' ∧ DoneOk N' G' ∧ Sub N N' ∧ Ok N' l r ∧
    (∀ a, E N' r a = if E N f a then E N g a else E N c a) ∧ last ≤ last' ∧ last' + 1 ≤ last + (pw (k + 1) : Int) ∧ sz' + 1 ≤ sz + pw (k + 1) ∧ n' + 1 ≤ n + pw (k + 1) ∧ Keeps [t, bn, bm, bd] w w' := by
  have hpp : pw (k + 1) = 2 * pw k := rfl
  rw [hpp] at hb1 hb2 hb3 ⊢
  have hp1 := pw_pos k
  clear hpp
  have hf := hT.fits hof
  have hg := hT.fits hog
  have hc := hT.fits hoc
  have ht8 := hT.wf.tops
  have hlt0 := lvl_top hT.wf hof h0 h1
  have Hlv : Hid (l ≤ mn (lvl N f) (lvl N g) (lvl N c) ∧ mn (lvl N f) (lvl N g) (lvl N c) < top ∧ Ok N (mn (lvl N f) (lvl N g) (lvl N c)) f ∧ Ok N (mn (lvl N f) (lvl N g) (lvl N c)) g ∧ Ok N (mn (lvl N f) (lvl N g) (lvl N c)) c) := by
    have hl8 : l ≤ 11 := by
      rcases hof with e | e | ⟨nd, hnd, hl⟩
      · exact absurd e h0
      · exact absurd e h1
      · have := hT.wf.lv f nd hnd; omega
    have q1 := lvl_ge hT.wf hof hl8
    have q2 := lvl_ge hT.wf hog hl8
    have q3 := lvl_ge hT.wf hoc hl8
    obtain ⟨m1, m2, m3⟩ := mn_le (a := lvl N f) (b := lvl N g) (c := lvl N c)
    refine ⟨?_, by omega, ok_lvl hof m1, ok_lvl hog m2, ok_lvl hoc m3⟩
    rcases mn_is (a := lvl N f) (b := lvl N g) (c := lvl N c) with e | e | e <;> omega
  have H01 : Hid (f ≠ 0 ∧ f ≠ 1) := ⟨h0, h1⟩
  clear hlt0
  have e1 : (f == 1) = false := by simp [h1]
  have e0 : (f == 0) = false := by simp [h0]
  have e2 : (g == c) = false := by simp [hgh]
  obtain ⟨kl, hkey⟩ := key133 hf hg hc
  have Hk : Hid (keyOf Tryz.prog 160 (trip f g c) = some kl) := hkey
  unfold trip at hkey hG ⊢
  have hrun : ∀ (o : Obj), (Instr.lookup 161 (.map (some bd)) (.agg #[.int .i64 f, .int .i64 g, .int .i64 c]) true).run Tryz.prog (w.alloc o) = .ok (.tuple #[.int .i64 0, .bool false]) (w.alloc o) := by
    intro o
    have := ((hd.alloc o).look lawChoice Tryz.underlying161 (zero69 _) hkey).1
    rw [hG] at this
    exact this
  have hB : w.heap.size < (w.alloc (.cells #[Value.int .i64 f, Value.int .i64 g, Value.int .i64 c] 160)).heap.size := by simp
  obtain ⟨W, hW⟩ : ∃ W, W = w.alloc (.cells #[Value.int .i64 f, Value.int .i64 g, Value.int .i64 c] 160) := ⟨_, rfl⟩
  have hTW : TabAt W t bn bm sz N top last := by rw [hW]; exact hT.grow ((Keeps.refl _ _).alloc _)
  have b0 : W.cell? ⟨w.heap.size, 0, none⟩ = some (.int .i64 f) := by rw [hW]; simp
  have b1 : W.cell? ⟨w.heap.size, 1, none⟩ = some (.int .i64 g) := by rw [hW]; simp
  have b2 : W.cell? ⟨w.heap.size, 2, none⟩ = some (.int .i64 c) := by rw [hW]; simp
  have HW : Hid (W = w.alloc (.cells #[Value.int .i64 f, Value.int .i64 g, Value.int .i64 c] 160)) := hW
  clear hkey hG hgh h1 h0 hW
  go_enter Tryz.func68, Tryz.ntmps68
  go_wp2_with fail
  rw [← HW.out]
  clear hrun e1 e0 e2 
  go_cut [9] (fun m wc => m = .int .i64 (mn (lvl N f) (lvl N g) (lvl N c)) ∧ Boxed W w.heap.size f g c wc)
  case first =>
    go_region_held3 (fun w' => w'.cell? ⟨w.heap.size, 0, none⟩ = some (.int .i64 f) ∧ w'.cell? ⟨w.heap.size, 1, none⟩ = some (.int .i64 g) ∧ w'.cell? ⟨w.heap.size, 2, none⟩ = some (.int .i64 c) ∧ Keeps [] W w')
      (first | exact ⟨b0, b1, b2, (Keeps.refl _ _).drew⟩ | exact boxed_keep (by assumption) (by assumption) | assumption)
      (first
        | (go_at_call_of 132 (Value.int IntKind.i64 f); refine (level_any (boxed_tab (B := w.heap.size) (f := f) (g := g) (h := c) hTW ?hs) hf).mono ?_; (case hs => assumption); rintro e w0 ⟨rfl, hk0⟩)
        | (go_at_call_of 132 (Value.int IntKind.i64 g); refine (level_any (boxed_tab (B := w.heap.size) (f := f) (g := g) (h := c) hTW ?hs) hg).mono ?_; (case hs => assumption); rintro e w1 ⟨rfl, hk1⟩)
        | (go_at_call_of 132 (Value.int IntKind.i64 c); refine (level_any (boxed_tab (B := w.heap.size) (f := f) (g := g) (h := c) hTW ?hs) hc).mono ?_; (case hs => assumption); rintro e w2 ⟨rfl, hk2⟩))
    go_wp2
    all_goals (go_meet; exact ⟨congrArg (Value.int .i64) (by unfold mn; (repeat' split) <;> omega), by assumption⟩)
  case rest =>
    obtain ⟨rfl, hbx⟩ := hcut
    obtain ⟨M, hM⟩ : ∃ M, M = mn (lvl N f) (lvl N g) (lvl N c) := ⟨_, rfl⟩
    rw [← hM]
    have HM : Hid (M = mn (lvl N f) (lvl N g) (lvl N c)) := hM
    clear hM
    have hsz := hbx.2.2.2.size
    have hm0 := Mid.start hbx (by rw [HW.out]; exact hB)
    have hT0 := boxed_tab hTW hm0.kb
    have m1 := hm0.kb.1
    have m2 := hm0.kb.2.1
    have m3 := hm0.kb.2.2.1
    have hlt : w.heap.size < wc.heap.size := by have := hm0.lB; omega
    go_wp2_with fail
    refine (branches_any hT0 hf M).mono ?_
    rintro e w1 ⟨rfl, hk1⟩
    have hm1 := hm0.keep hk1
    clear m1 m2 m3
    have m1 := hm1.kb.2.1
    have q1 := hm1.a0
    have q2 := hm1.d0
    have q3 := hm1.fa 0
    have q4 := hm1.fd 0
    go_wp2_with fail
    have hm1' := hm1.set0 (part N f M false) (part N f M true)
    have hT1 := boxed_tab hTW hm1'.kb
    refine (branches_any hT1 hg M).mono ?_
    rintro e w2 ⟨rfl, hk2⟩
    have hm2 := hm1'.keep hk2
    clear m1 q1 q2 q3 q4 hT1
    have m1 := hm2.kb.2.2.1
    have q1 := hm2.a1
    have q2 := hm2.d1
    have q3 := hm2.fa 1
    have q4 := hm2.fd 1
    go_wp2_with fail
    have hm2' := hm2.set1 (part N g M false) (part N g M true)
    have hT2 := boxed_tab hTW hm2'.kb
    refine (branches_any hT2 hc M).mono ?_
    rintro e w3 ⟨rfl, hk3⟩
    have hm3 := hm2'.keep hk3
    clear m1 q1 q2 q3 q4 hT2
    have q1 := hm3.a2
    have q2 := hm3.d2
    have q3 := hm3.fa 2
    have q4 := hm3.fd 2
    go_wp2_with fail
    have hm4 := hm3.set2 (part N c M false) (part N c M true)
    obtain ⟨V, hV⟩ : ∃ V, V = ((w3.setCell { block := wc.heap.size, off := 2 } (Value.int IntKind.i64 (part N c M false))).setCell { block := wc.heap.size + 1, off := 2 } (Value.int IntKind.i64 (part N c M true))) := ⟨_, rfl⟩
    rw [← hV] at hm4 ⊢
    clear hV hm3 hm2' hm2 hm1' hm1 hm0 hT0 hk1 hk2 hk3 q1 q2 q3 q4 hbx
    -- the parts
    have Hx : Hid (Ok N (M + 1) (part N f M false) ∧ Ok N (M + 1) (part N g M false) ∧ Ok N (M + 1) (part N c M false) ∧ Ok N (M + 1) (part N f M true) ∧ Ok N (M + 1) (part N g M true) ∧ Ok N (M + 1) (part N c M true) ∧ 0 ≤ M ∧ M < top ∧ l ≤ M) := by
      obtain ⟨z1, z2, z3, z4, z5⟩ := Hlv.out
      rw [← HM.out] at z1 z2 z3 z4 z5
      exact ⟨part_ok hT.wf z3 _, part_ok hT.wf z4 _, part_ok hT.wf z5 _, part_ok hT.wf z3 _, part_ok hT.wf z4 _, part_ok hT.wf z5 _, by omega, z2, z1⟩
    have HE : Hid ((∀ a, E N f a = if a M then E N (part N f M true) a else E N (part N f M false) a) ∧ (∀ a, E N g a = if a M then E N (part N g M true) a else E N (part N g M false) a) ∧ ∀ a, E N c a = if a M then E N (part N c M true) a else E N (part N c M false) a) := by
      have key : ∀ (x : Int) (a : Int → Bool), E N x a = if a M then E N (part N x M true) a else E N (part N x M false) a := by
        intro x a
        rw [part_E hT.wf (m := M) (f := x) a]
        cases hb : a M <;> simp
      exact ⟨key f, key g, key c⟩
    obtain ⟨xf, hxf⟩ : ∃ x, x = part N f M false := ⟨_, rfl⟩
    obtain ⟨xg, hxg⟩ : ∃ x, x = part N g M false := ⟨_, rfl⟩
    obtain ⟨xc, hxc⟩ : ∃ x, x = part N c M false := ⟨_, rfl⟩
    obtain ⟨yf, hyf⟩ : ∃ x, x = part N f M true := ⟨_, rfl⟩
    obtain ⟨yg, hyg⟩ : ∃ x, x = part N g M true := ⟨_, rfl⟩
    obtain ⟨yc, hyc⟩ : ∃ x, x = part N c M true := ⟨_, rfl⟩
    rw [← hxf, ← hxg, ← hxc, ← hyf, ← hyg, ← hyc] at Hx HE hm4
    clear hxf hxg hxc hyf hyg hyc
    have hTV := boxed_tab hTW hm4.kb
    have hTV' : TabAt V.drew t bn bm sz N top last := hTV.grow ((Keeps.refl _ _).drew)
    have hKV : Keeps [] w V := by
      have := hm4.kb.2.2.2
      rw [HW.out] at this
      exact ((Keeps.refl [] w).alloc _).trans this
    have hdV : MapIs V.drew Tryz.prog 160 bd n G := (hd.keeps hKV (by simp)).drew
    have l1 : t < w.heap.size := cell_lt (p := ⟨t, 0, none⟩) hT.c0
    have l2 := hT.names.lt
    have l3 := hT.nodes.lt
    have l4 := hd.lt
    have hA : wc.heap.size ∉ [t, bn, bm, bd] := by simp; omega
    have hD : wc.heap.size + 1 ∉ [t, bn, bm, bd] := by simp; omega
    have t0 : Two V [t, bn, bm, bd] wc.heap.size (wc.heap.size + 1) xf xg xc yf yg yc V.drew := ⟨hm4.a0, hm4.a1, hm4.a2, hm4.d0, hm4.d1, hm4.d2, (Keeps.refl _ _).drew⟩
    have hx9 := Hx.out.2.2.2.2.2.2
    have hlk2 : top - (M + 1) ≤ (k : Int) := by omega
    have hbb1 : last + (pw k : Int) ≤ 4611686018427387904 := by omega
    have hbb2 : sz + pw k < maxLen := by omega
    have hbb3 : n + pw k < maxLen := by omega
    have hM1 : 0 ≤ M + 1 := by omega
    go_region_held3 (fun w' => w'.cell? ⟨wc.heap.size, 0, none⟩ = some (.int .i64 xf) ∧ w'.cell? ⟨wc.heap.size, 1, none⟩ = some (.int .i64 xg) ∧ w'.cell? ⟨wc.heap.size, 2, none⟩ = some (.int .i64 xc) ∧ w'.cell? ⟨wc.heap.size + 1, 0, none⟩ = some (.int .i64 yf) ∧ w'.cell? ⟨wc.heap.size + 1, 1, none⟩ = some (.int .i64 yg) ∧ w'.cell? ⟨wc.heap.size + 1, 2, none⟩ = some (.int .i64 yc) ∧ Keeps [t, bn, bm, bd] V w')
      (first | exact t0 | exact two_keep hA hD (by assumption) (by assumption) | assumption)
      (first
        | (go_at_call_of 68 (Value.int IntKind.i64 xf); refine (IH.at (M + 1) xf xg xc hTV' hdV hdone hnn hnm hM1 hlk2 Hx.out.1 Hx.out.2.1 Hx.out.2.2.1 hbb1 hbb2 hbb3).mono ?_; rintro e w4 ⟨r0, N1, last1, sz1, n1, G1, rfl, hT1, hd1, hdn1, hs1, hok1, hE1, hla1, hlb1, hsz1, hn1, hk4⟩)
        | (go_at_call_of 68 (Value.int IntKind.i64 yf); refine (IH.at (M + 1) yf yg yc hT1 hd1 hdn1 hnn hnm hM1 hlk2 ?z1 ?z2 ?z3 ?z4 ?z5 ?z6).mono ?_; (case z1 => exact Hx.out.2.2.2.1.sub hs1); (case z2 => exact Hx.out.2.2.2.2.1.sub hs1); (case z3 => exact Hx.out.2.2.2.2.2.1.sub hs1); (case z4 => omega); (case z5 => omega); (case z6 => omega); rintro e w5 ⟨r1, N2, last2, sz2, n2, G2, rfl, hT2, hd2, hdn2, hs2, hok2, hE2, hla2, hlb2, hsz2, hn2, hk5⟩)
        | (go_at_call 67; refine (join_at hT2 M r0 r1 ?z1 ?z2 ?z3 ?z4 ?z5 ?z6).mono ?_; (case z1 => omega); (case z2 => omega); (case z3 => exact hok1.sub hs2); (case z4 => exact hok2); (case z5 => omega); (case z6 => omega); rintro e w6 ⟨r, N3, last3, sz3, rfl, hT3, hs3, hok3, hE3, hla3, hlb3, hsz3, hk6'⟩; have hk6 : Keeps [t, bn, bm, bd] w5 w6 := hk6'.mono (by simp)))
    have s6 := (by assumption : Two V [t, bn, bm, bd] wc.heap.size (wc.heap.size + 1) xf xg xc yf yg yc w6)
    have hkV6 := s6.2.2.2.2.2.2
    have hBn : w.heap.size ∉ [t, bn, bm, bd] := by simp; omega
    have c0' := hkV6.cell hm4.kb.1 hBn
    have c1' := hkV6.cell hm4.kb.2.1 hBn
    have c2' := hkV6.cell hm4.kb.2.2.1 hBn
    have hbdt : bd ≠ t := fun e => (hd.ne_cell hT.c0) e.symm
    have hd6 : MapIs w6 Tryz.prog 160 bd n2 G2 := hd2.keeps hk6' (by simp; exact ⟨hbdt, hnn, hnm⟩)
    have hn3 : n2 < maxLen := by omega
    clear s6
    go_wp2_with (first
      | (at_mapUpdate; refine wpList_store _ rfl _ _ _ 161 rfl 160 88 lawChoice Tryz.underlying161 bd n2 G2 rfl hd6 hn3 (trip f g c) (.int .i64 r) kl rfl rfl Hk.out ?_; intro w7 hm7 hg7)
      | fail)
    go_ret
    have hEf := HE.out
    have hxx := Hx.out
    have hsN3 : Sub N N3 := hs1.trans (hs2.trans hs3)
    have hof3 := hof.sub hsN3
    have hog3 := hog.sub hsN3
    have hoc3 := hoc.sub hsN3
    have hEr : ∀ a, E N3 r a = if E N f a then E N g a else E N c a := by
      intro a
      rw [hE3, E_sub hT1.wf hT2.wf hs2 hok1, hE1, hE2, hEf.1, hEf.2.1, hEf.2.2, E_sub hT.wf hT1.wf hs1 hxx.2.2.2.1, E_sub hT.wf hT1.wf hs1 hxx.2.2.2.2.1, E_sub hT.wf hT1.wf hs1 hxx.2.2.2.2.2.1]
      cases a M <;> simp
    have hK7 : Keeps [t, bn, bm, bd] w w7 := ((hKV.mono (by simp)).trans hkV6).grown hg7 (by simp)
    refine ⟨r, N3, last3, sz3, _, _, rfl, hT3.keeps ((Keeps.refl [bd] w6).grown hg7 (by simp)) (by simp; exact fun e => hbdt e.symm) (by simp; exact fun e => hnn e.symm) (by simp; exact fun e => hnm e.symm), hm7, ?_, hsN3, hok3.mono (by omega), hEr, by omega, by omega, by omega, ?_, hK7⟩
    · refine (hdn2.sub hT2.wf hT3.wf hs3).set (hof3.mono hl0) (hog3.mono hl0) (hoc3.mono hl0) (hok3.mono (by omega)) ?_ ?_
      · intro l' q1 q2 q3
        refine hok3.mono ?_
        have z1 := ok_back hT3.wf hsN3 (hof.mono hl0) q1
        have z2 := ok_back hT3.wf hsN3 (hog.mono hl0) q2
        have z3 := ok_back hT3.wf hsN3 (hoc.mono hl0) q3
        have hl8 : l' ≤ 11 := by
          rcases z1 with e | e | ⟨nd, hnd, hl⟩
          · exact absurd e H01.out.1
          · exact absurd e H01.out.2
          · have := hT.wf.lv f nd hnd; omega
        have y1 := lvl_ge hT.wf z1 hl8
        have y2 := lvl_ge hT.wf z2 hl8
        have y3 := lvl_ge hT.wf z3 hl8
        rw [HM.out]
        rcases mn_is (a := lvl N f) (b := lvl N g) (c := lvl N c) with e | e | e <;> omega
      · intro a
        rw [hEr, E_sub hT.wf hT3.wf hsN3 hof, E_sub hT.wf hT3.wf hsN3 hog, E_sub hT.wf hT3.wf hsN3 hoc]
    · split <;> omega

theorem choose_any : ∀ k, ChooseSaid k := by
  intro k
  induction k with
  | zero =>
    intro w t bn bm bd sz n N top last G l f g h hT hd hdn hnn hnm hl0 hlk hof hog hoh hb1 hb2 hb3
    have hf : f = 0 ∨ f = 1 := by
      rcases hof with e | e | ⟨nd, hnd, hl⟩
      · exact Or.inl e
      · exact Or.inr e
      · have := hT.wf.lv f nd hnd; omega
    rcases hf with rfl | rfl
    · refine (choose_first 0 g h h (Or.inr (Or.inl ⟨by decide, rfl, rfl⟩))).mono ?_
      rintro e w' ⟨rfl, hk⟩
      exact ⟨h, N, last, sz, n, G, rfl, hT.grow hk, hd.keeps hk (by simp), hdn, Sub.refl _, hoh, fun a => by rw [E_zero hT.wf]; simp, by omega, by simp [pw], by simp [pw], by simp [pw], hk.mono (by simp)⟩
    · refine (choose_first 1 g h g (Or.inl ⟨rfl, rfl⟩)).mono ?_
      rintro e w' ⟨rfl, hk⟩
      exact ⟨g, N, last, sz, n, G, rfl, hT.grow hk, hd.keeps hk (by simp), hdn, Sub.refl _, hog, fun a => by rw [E_one hT.wf]; simp, by omega, by simp [pw], by simp [pw], by simp [pw], hk.mono (by simp)⟩
  | succ k IH =>
    intro w t bn bm bd sz n N top last G l f g h hT hd hdn hnn hnm hl0 hlk hof hog hoh hb1 hb2 hb3
    have hpp := pw_pos (k + 1)
    by_cases h1 : f = 1
    · subst h1
      refine (choose_first 1 g h g (Or.inl ⟨rfl, rfl⟩)).mono ?_
      rintro e w' ⟨rfl, hk⟩
      exact ⟨g, N, last, sz, n, G, rfl, hT.grow hk, hd.keeps hk (by simp), hdn, Sub.refl _, hog, fun a => by rw [E_one hT.wf]; simp, by omega, by omega, by omega, by omega, hk.mono (by simp)⟩
    · by_cases h0 : f = 0
      · subst h0
        refine (choose_first 0 g h h (Or.inr (Or.inl ⟨by decide, rfl, rfl⟩))).mono ?_
        rintro e w' ⟨rfl, hk⟩
        exact ⟨h, N, last, sz, n, G, rfl, hT.grow hk, hd.keeps hk (by simp), hdn, Sub.refl _, hoh, fun a => by rw [E_zero hT.wf]; simp, by omega, by omega, by omega, by omega, hk.mono (by simp)⟩
      · by_cases hgh : g = h
        · subst hgh
          refine (choose_first f g g g (Or.inr (Or.inr ⟨h1, h0, rfl, rfl⟩))).mono ?_
          rintro e w' ⟨rfl, hk⟩
          exact ⟨g, N, last, sz, n, G, rfl, hT.grow hk, hd.keeps hk (by simp), hdn, Sub.refl _, hog, fun a => by simp, by omega, by omega, by omega, by omega, hk.mono (by simp)⟩
        · cases hG : G (trip f g h) with
          | none => exact choose_rec k IH hT hd hdn hnn hnm hl0 hlk hof hog hoh hb1 hb2 hb3 hG h1 h0 hgh
          | some v =>
            obtain ⟨r, rfl, _, _, _, _, h5, h6⟩ := hdn f g h v hG
            refine (choose_hit hd hG (hT.fits hof) (hT.fits hog) (hT.fits hoh) h1 h0 hgh).mono ?_
            rintro e w' ⟨rfl, hk⟩
            exact ⟨r, N, last, sz, n, G, rfl, hT.grow hk, hd.keeps hk (by simp), hdn, Sub.refl _, h5 l hof hog hoh, h6, by omega, by omega, by omega, by omega, hk.mono (by simp)⟩

end Go.Proofs.YtmgjegokkbghlaaGreatDoor
