/- The calls that make functions: Constant, Variable, Not, Apply, Choose. -/
import Derived.Test.YtmgjegokkbghlaaGreatCalls
import Derived.Test.YtmgjegokkbghlaaGreatKnown
import Derived.Test.YtmgjegokkbghlaaGreatHoldVar
import Derived.Test.YtmgjegokkbghlaaGreatHoldApp
import Derived.Test.YtmgjegokkbghlaaGreatHoldCho
import Derived.Test.YtmgjegokkbghlaaGreatHoldNot
import Derived.Test.YtmgjegokkbghlaaGreatHoldCon
namespace Go.Proofs.YtmgjegokkbghlaaGreat
open Go.RowKit Go.Maps Bdd

theorem Held1.from {w wx w' : World} {s hb t bn bm L nh : Nat} {od : Ord L} {lim given lb : Int} {V : Int → Option Fun} {F : Fun} {e : Ending} (hk : Keeps [] w wx) (h : Held1 wx s hb t bn bm od nh lim given V lb F e w') : Held1 w s hb t bn bm od nh lim given V lb F e w' := by
  rcases h with ⟨h1, h2, h3, h4⟩ | ⟨h1, sz2, h2, h3, h4⟩
  · exact Or.inl ⟨h1, h2, h3, hk.trans h4⟩
  · exact Or.inr ⟨h1, sz2, h2, (hk.mono (by simp)).trans h3, h4⟩
theorem Held1.ends {w w' : World} {s hb t bn bm L nh : Nat} {od : Ord L} {lim given lb : Int} {V : Int → Option Fun} {F : Fun} {e : Ending} (h : Held1 w s hb t bn bm od nh lim given V lb F e w') : ∃ x y : Int, e = .returned (.tuple #[.int .i64 x, .int .i64 y]) := by
  rcases h with ⟨_, h, _⟩ | ⟨_, _, _, _, ⟨_, h, _⟩ | ⟨_, h, _⟩⟩
  · exact ⟨_, _, h⟩
  · exact ⟨_, _, h⟩
  · exact ⟨_, _, h⟩
theorem cell_new (w : World) (C : Array Value) (T : TypeId) {B i : Nat} {v : Value} (hB : B = w.heap.size) (h : C[i]? = some v) : (w.alloc (.cells C T)).cell? ⟨B, i, none⟩ = some v := by
  subst hB
  rw [World.cell?_alloc_at _ _ _ _ rfl]
  exact h
theorem St.szb {w : World} {s hb t bn bm L nh sz : Nat} {od : Ord L} {lim given lb : Int} {V : Int → Option Fun} (h : St w s hb t bn bm od nh sz lim given V lb) : sz + 100000 < maxLen := by
  obtain ⟨N, last, H, hst, _, _, _, _, hs, hn⟩ := h
  have hL8 := hst.tab.wf.tops
  have hpl : pw L ≤ 256 := by
    have : ∀ k, k ≤ 8 → pw k ≤ 256 := by decide
    exact this L (by omega)
  have hml : 200000 < maxLen := by decide
  have : sz ≤ 60 * 255 := Nat.le_trans hs (Nat.mul_le_mul hn (by omega))
  omega

set_option maxRecDepth 100000 in
set_option maxHeartbeats 400000 in
theorem constant_any {w : World} {s hb t bn bm L nh sz : Nat} {od : Ord L} {lim given lb : Int} {V : Int → Option Fun} (h : St w s hb t bn bm od nh sz lim given V lb) (b : Bool) (hg1 : given + 1 ≤ 4611686018427387904) :
    Calls Tryz.prog 22 #[.pointer (some ⟨s, 0, none⟩), .bool b] w fun e w' => Held1 w s hb t bn bm od nh lim given V lb (fun _ => b) e w' := by
  obtain ⟨N, last, H, hst, h1, h2, h3, h4, h5, h6⟩ := h
  have hmf : ∀ (fn : Fn) (first cap : Array Value) (w : World), (Instr.makeFunc fn first cap).run Tryz.prog w = .ok (.func fn first cap) w := fun _ _ _ _ => rfl
  have hk : Keeps [] w (w.alloc (.cells #[.bool b] 4)) := (Keeps.refl _ _).alloc _
  have hst' := hst.keeps hk
  have HV : Hid (∀ x, V x = (H x).map (FV N od)) := h2
  clear h2
  go_enter Tryz.func22, Tryz.ntmps22
  go_wp2_with fail
  refine (hold_49 hst' h1 HV.out h3 h4 h5 h6 hg1 _ (con1_any (c1 := w.heap.size) (b := b) (hst'.keeps ((Keeps.refl _ _).drew)) (by simp))).mono ?_
  intro e w' hh
  have hh' := hh.from hk
  obtain ⟨x, y, rfl⟩ := hh.ends
  clear hh
  go_wp2_with fail
  go_ret2
  exact hh'

set_option maxRecDepth 100000 in
set_option maxHeartbeats 400000 in
theorem variable_any {w : World} {s hb t bn bm L nh sz : Nat} {od : Ord L} {lim given lb : Int} {V : Int → Option Fun} (h : St w s hb t bn bm od nh sz lim given V lb) {i : Int} (h0 : 0 ≤ i) (h1 : i < L) (hlb : lb + 100000 ≤ 4611686018427387904) (hg1 : given + 1 ≤ 4611686018427387904) :
    Calls Tryz.prog 23 #[.pointer (some ⟨s, 0, none⟩), .int .i64 i] w fun e w' => Held1 w s hb t bn bm od nh lim given V lb (fun a => a i) e w' := by
  have hsz := h.szb
  obtain ⟨N, last, H, hst, k1, k2, k3, k4, k5, k6⟩ := h
  have hmf : ∀ (fn : Fn) (first cap : Array Value) (w : World), (Instr.makeFunc fn first cap).run Tryz.prog w = .ok (.func fn first cap) w := fun _ _ _ _ => rfl
  have hk : Keeps [] w (((w.alloc (.cells #[.pointer (some ⟨s, 0, none⟩)] 36)).alloc (.cells #[.int .i64 i] 3)).alloc (.cells #[.int .i64 i] 3)) := (((Keeps.refl _ _).alloc _).alloc _).alloc _
  have hst' := hst.keeps hk
  have HV : Hid (∀ x, V x = (H x).map (FV N od)) := k2
  have ls : s < w.heap.size := cell_lt (p := ⟨s, 0, none⟩) hst.c0
  clear k2
  go_enter Tryz.func23, Tryz.ntmps23
  go_wp2_with fail
  refine (known_any (b := w.heap.size + 2) (o := 0) hst' [i] (by simp) (fun j hj => by simp at hj; subst hj; exact cell_new _ _ _ (by simp) rfl)).mono ?_
  rintro e w1 ⟨⟨_, rfl⟩ | ⟨hnv, _⟩, hk1⟩
  · have hst1 := hst'.keeps hk1
    have hkw := hk.trans hk1
    have d0 : w1.cell? ⟨w.heap.size, 0, none⟩ = some (.pointer (some ⟨s, 0, none⟩)) := hk1.cell ((((Keeps.refl [] _).alloc _).alloc _).cell (cell_new w _ _ rfl rfl) (by simp)) (by simp)
    have d1 : w1.cell? ⟨w.heap.size + 1, 0, none⟩ = some (.int .i64 i) := hk1.cell (((Keeps.refl [] _).alloc _).cell (cell_new (w.alloc _) _ _ (by simp) rfl) (by simp)) (by simp)
    go_wp2_with fail
    refine (hold_41 hst1 k1 HV.out k3 k4 k5 k6 hg1 _ _ (var1_any (c1 := w.heap.size) (c2 := w.heap.size + 1) (i := i) (hst1.keeps ((Keeps.refl _ _).drew)) h0 h1 (by omega) hsz d0 d1)).mono ?_
    intro e w' hh
    have hh' := hh.from hkw
    obtain ⟨x, y, rfl⟩ := hh.ends
    clear hh
    go_wp2_with fail
    go_ret2
    exact hh'
  · exact absurd (fun k hk => by simp at hk; subst hk; simpa using ⟨h0, h1⟩) hnv

set_option maxRecDepth 100000 in
set_option maxHeartbeats 400000 in
theorem variable_bad {w : World} {s hb t bn bm L nh sz : Nat} {od : Ord L} {lim given lb : Int} {V : Int → Option Fun} (h : St w s hb t bn bm od nh sz lim given V lb) {i : Int} (h0 : i < 0 ∨ (L : Int) ≤ i) :
    Calls Tryz.prog 23 #[.pointer (some ⟨s, 0, none⟩), .int .i64 i] w fun e w' => e = .returned (.tuple #[.int .i64 0, .int .i64 3]) ∧ Keeps [] w w' := by
  obtain ⟨N, last, H, hst, k1, k2, k3, k4, k5, k6⟩ := h
  have hk : Keeps [] w (((w.alloc (.cells #[.pointer (some ⟨s, 0, none⟩)] 36)).alloc (.cells #[.int .i64 i] 3)).alloc (.cells #[.int .i64 i] 3)) := (((Keeps.refl _ _).alloc _).alloc _).alloc _
  have hst' := hst.keeps hk
  have ls : s < w.heap.size := cell_lt (p := ⟨s, 0, none⟩) hst.c0
  go_enter Tryz.func23, Tryz.ntmps23
  go_wp2_with fail
  refine (known_any (b := w.heap.size + 2) (o := 0) hst' [i] (by simp) (fun j hj => by simp at hj; subst hj; exact cell_new _ _ _ (by simp) rfl)).mono ?_
  rintro e w1 ⟨⟨hv, _⟩ | ⟨_, rfl⟩, hk1⟩
  · have := hv 0 (by simp)
    simp at this
    omega
  · have hkw := hk.trans hk1
    have ld : w.heap.size + 1 < w1.heap.size := cell_lt (p := ⟨w.heap.size + 1, 0, none⟩) (v := .int .i64 i) (hk1.cell (((Keeps.refl [] _).alloc _).cell (cell_new (w.alloc (.cells #[.pointer (some ⟨s, 0, none⟩)] 36)) #[.int .i64 i] 3 (by simp) rfl) (by simp)) (by simp))
    go_wp2_with fail
    go_ret2
    exact ⟨rfl, hkw⟩

set_option maxRecDepth 100000 in
set_option maxHeartbeats 400000 in
theorem not_any {w : World} {s hb t bn bm L nh sz : Nat} {od : Ord L} {lim given lb : Int} {V : Int → Option Fun} (h : St w s hb t bn bm od nh sz lim given V lb) {f : Int} {F : Fun} (hf : V f = some F) (hlb : lb + 100000 ≤ 4611686018427387904) (hg1 : given + 1 ≤ 4611686018427387904) :
    Calls Tryz.prog 24 #[.pointer (some ⟨s, 0, none⟩), .int .i64 f] w fun e w' => Held1 w s hb t bn bm od nh lim given V lb (fun a => !F a) e w' := by
  have hsz := h.szb
  obtain ⟨N, last, H, hst, k1, k2, k3, k4, k5, k6⟩ := h
  have hmf : ∀ (fn : Fn) (first cap : Array Value) (w : World), (Instr.makeFunc fn first cap).run Tryz.prog w = .ok (.func fn first cap) w := fun _ _ _ _ => rfl
  obtain ⟨f0, e0, e1⟩ : ∃ f0, H f = some f0 ∧ FV N od f0 = F := by
    rw [k2] at hf
    exact Option.map_eq_some_iff.1 hf
  have hfit : Fits f := by have := hst.hr f f0 e0; unfold Fits; omega
  have hk : Keeps [] w ((w.alloc (.cells #[.pointer (some ⟨s, 0, none⟩)] 36)).alloc (.cells #[.int .i64 f] 3)) := ((Keeps.refl _ _).alloc _).alloc _
  have hst' := hst.keeps hk
  have HV : Hid (∀ x, V x = (H x).map (FV N od)) := k2
  have HF : Hid (H f = some f0) := e0
  have ls : s < w.heap.size := cell_lt (p := ⟨s, 0, none⟩) hst.c0
  have HE : Hid (FV N od f0 = F) := e1
  clear k2 hf e0 e1
  go_enter Tryz.func24, Tryz.ntmps24
  go_wp2_with fail
  refine (find_any (b := w.heap.size + 1) hst' [f] (by simp) (fun j hj => by simp at hj; subst hj; simpa using hfit) (fun j hj => by simp at hj; subst hj; simp) (by simp)).mono ?_
  rintro e w1 (⟨⟨j, hj, hn⟩, _⟩ | ⟨_, g, cap, rfl, hg, hcell, hk1⟩)
  · simp at hj
    subst hj
    simp [HF.out] at hn
  · have hc0 := hcell 0 (by simp)
    simp [HF.out] at hc0
    have hst1 := hst'.keeps hk1
    have hkw := hk.trans hk1
    have d0 : w1.cell? ⟨w.heap.size, 0, none⟩ = some (.pointer (some ⟨s, 0, none⟩)) := hk1.cell (by simp) (by simp)
    have ld : w.heap.size < w1.heap.size := cell_lt (p := ⟨w.heap.size, 0, none⟩) d0
    have lg : g < w1.heap.size := cell_lt (p := ⟨g, 0, none⟩) hc0
    simp only [List.length_cons, List.length_nil, Nat.zero_add]
    go_wp2_with fail
    have hk2 : Keeps [] w1 (w1.alloc (.cells #[.slice (some ⟨g, 0, none⟩) 1 cap] 67)) := (Keeps.refl _ _).alloc _
    have hst2 := hst1.keeps hk2
    refine (hold_47 hst2 k1 HV.out k3 k4 k5 k6 hg1 _ _ (not1_any (c1 := w.heap.size) (c2 := w1.heap.size) (g := g) (cap := cap) (hst2.keeps ((Keeps.refl _ _).drew)) (hst.ok f f0 HF.out) (by omega) hsz (hk2.cell d0 (by simp)) (by simp) (hk2.cell hc0 (by simp)))).mono ?_
    intro e w' hh
    rw [HE.out] at hh
    have hh' := hh.from (hkw.trans hk2)
    obtain ⟨x, y, rfl⟩ := hh.ends
    clear hh
    go_wp2_with fail
    go_ret2
    exact hh'

/-- a handle that is held -/
theorem St.has {L : Nat} {od : Ord L} {N : Tab} {H : Int → Option Int} {V : Int → Option Fun} (k2 : ∀ x, V x = (H x).map (FV N od)) {f : Int} {F : Fun} (hf : V f = some F) : ∃ f0, H f = some f0 ∧ FV N od f0 = F := by
  rw [k2] at hf
  exact Option.map_eq_some_iff.1 hf
theorem St.hasnt {L : Nat} {od : Ord L} {N : Tab} {H : Int → Option Int} {V : Int → Option Fun} (k2 : ∀ x, V x = (H x).map (FV N od)) {f : Int} (hf : V f = none) : H f = none := by
  rw [k2] at hf
  exact Option.map_eq_none_iff.1 hf

set_option maxRecDepth 100000 in
set_option maxHeartbeats 400000 in
theorem not_bad {w : World} {s hb t bn bm L nh sz : Nat} {od : Ord L} {lim given lb : Int} {V : Int → Option Fun} (h : St w s hb t bn bm od nh sz lim given V lb) {f : Int} (hfit : Fits f) (hf : V f = none) :
    Calls Tryz.prog 24 #[.pointer (some ⟨s, 0, none⟩), .int .i64 f] w fun e w' => e = .returned (.tuple #[.int .i64 0, .int .i64 2]) ∧ Keeps [] w w' := by
  obtain ⟨N, last, H, hst, k1, k2, k3, k4, k5, k6⟩ := h
  have hk : Keeps [] w ((w.alloc (.cells #[.pointer (some ⟨s, 0, none⟩)] 36)).alloc (.cells #[.int .i64 f] 3)) := ((Keeps.refl _ _).alloc _).alloc _
  have hst' := hst.keeps hk
  have HF : Hid (H f = none) := St.hasnt k2 hf
  have ls : s < w.heap.size := cell_lt (p := ⟨s, 0, none⟩) hst.c0
  clear k2 hf
  go_enter Tryz.func24, Tryz.ntmps24
  go_wp2_with fail
  refine (find_any (b := w.heap.size + 1) hst' [f] (by simp) (fun j hj => by simp at hj; subst hj; simpa using hfit) (fun j hj => by simp at hj; subst hj; simp) (by simp)).mono ?_
  rintro e w1 (⟨_, rfl, hk1⟩ | ⟨hall, _⟩)
  · go_wp2_with fail
    go_ret2
    exact ⟨rfl, (hk.trans hk1).alloc _⟩
  · have := hall 0 (by simp)
    simp [HF.out] at this

set_option maxRecDepth 100000 in
set_option maxHeartbeats 1000000 in
theorem apply_any {w : World} {s hb t bn bm L nh sz : Nat} {od : Ord L} {lim given lb : Int} {V : Int → Option Fun} (h : St w s hb t bn bm od nh sz lim given V lb) {what f g : Int} {F G : Fun} (hf : V f = some F) (hg : V g = some G) (hw0 : 0 ≤ what) (hw1 : what ≤ 3) (hlb : lb + 100000 ≤ 4611686018427387904) (hg1 : given + 1 ≤ 4611686018427387904) :
    Calls Tryz.prog 25 #[.pointer (some ⟨s, 0, none⟩), .int .i64 what, .int .i64 f, .int .i64 g] w fun e w' => Held1 w s hb t bn bm od nh lim given V lb (fun a => app what (F a) (G a)) e w' := by
  have hsz := h.szb
  obtain ⟨N, last, H, hst, k1, k2, k3, k4, k5, k6⟩ := h
  have hmf : ∀ (fn : Fn) (first cap : Array Value) (w : World), (Instr.makeFunc fn first cap).run Tryz.prog w = .ok (.func fn first cap) w := fun _ _ _ _ => rfl
  obtain ⟨f0, e0, e1⟩ := St.has k2 hf
  obtain ⟨g0, e2, e3⟩ := St.has k2 hg
  have hfit : Fits f := by have := hst.hr f f0 e0; unfold Fits; omega
  have hfitg : Fits g := by have := hst.hr g g0 e2; unfold Fits; omega
  have hk : Keeps [] w (((w.alloc (.cells #[.pointer (some ⟨s, 0, none⟩)] 36)).alloc (.cells #[.int .i64 what] 3)).alloc (.cells #[.int .i64 f, .int .i64 g] 3)) := (((Keeps.refl _ _).alloc _).alloc _).alloc _
  have hst' := hst.keeps hk
  have HV : Hid (∀ x, V x = (H x).map (FV N od)) := k2
  have HF : Hid (H f = some f0) := e0
  have HG : Hid (H g = some g0) := e2
  have ls : s < w.heap.size := cell_lt (p := ⟨s, 0, none⟩) hst.c0
  have HE : Hid (FV N od f0 = F) := e1
  have HEg : Hid (FV N od g0 = G) := e3
  have hd : decide (what < 0) = false := by simp; omega
  have hcells : ∀ j, j < [f, g].length → (((w.alloc (.cells #[Value.pointer (some ⟨s, 0, none⟩)] 36)).alloc (.cells #[.int .i64 what] 3)).alloc (.cells #[.int .i64 f, .int .i64 g] 3)).cell? ⟨w.heap.size + 2, j, none⟩ = some (.int .i64 ([f, g].getD j 0)) := by
    intro j hj
    rw [World.cell?_alloc_at _ _ _ _ (by simp)]
    match j, hj with
    | 0, _ => rfl
    | 1, _ => rfl
  have hfits : ∀ j, j < [f, g].length → Fits ([f, g].getD j 0) := by
    intro j hj
    match j, hj with
    | 0, _ => exact hfit
    | 1, _ => exact hfitg
  clear k2 hf hg e0 e1 e2 e3
  go_enter Tryz.func25, Tryz.ntmps25
  go_wp2_with fail
  refine (find_any (b := w.heap.size + 2) hst' [f, g] (by simp) hfits hcells (by simp)).mono ?_
  rintro e w1 (⟨⟨j, hj, hn⟩, _⟩ | ⟨_, gg, cap, rfl, hgg, hcell, hk1⟩)
  · exfalso
    match j, hj with
    | 0, _ => simp [HF.out] at hn
    | 1, _ => simp [HG.out] at hn
  · have hc0 := hcell 0 (by simp)
    have hc1 := hcell 1 (by simp)
    simp [HF.out] at hc0
    simp [HG.out] at hc1
    have hst1 := hst'.keeps hk1
    have hkw := hk.trans hk1
    have d0 : w1.cell? ⟨w.heap.size, 0, none⟩ = some (.pointer (some ⟨s, 0, none⟩)) := hk1.cell (by rw [World.cell?_alloc_past _ _ _ (by simp; omega), World.cell?_alloc_past _ _ _ (by simp), World.cell?_alloc_at _ _ _ _ rfl]; rfl) (by simp)
    have d1 : w1.cell? ⟨w.heap.size + 1, 0, none⟩ = some (.int .i64 what) := hk1.cell (by rw [World.cell?_alloc_past _ _ _ (by simp), World.cell?_alloc_at _ _ _ _ (by simp)]; rfl) (by simp)
    have ld : w.heap.size < w1.heap.size := cell_lt (p := ⟨w.heap.size, 0, none⟩) d0
    have ld1 : w.heap.size + 1 < w1.heap.size := cell_lt (p := ⟨w.heap.size + 1, 0, none⟩) d1
    have lg : gg < w1.heap.size := cell_lt (p := ⟨gg, 0, none⟩) hc0
    simp only [List.length_cons, List.length_nil, Nat.zero_add, Nat.reduceAdd]
    go_wp2_with fail
    have hk2 : Keeps [] w1 (w1.alloc (.cells #[.slice (some ⟨gg, 0, none⟩) 2 cap] 67)) := (Keeps.refl _ _).alloc _
    have hst2 := hst1.keeps hk2
    refine (hold_43 hst2 k1 HV.out k3 k4 k5 k6 hg1 _ _ _ (app1_any (c1 := w.heap.size) (c2 := w.heap.size + 1) (c3 := w1.heap.size) (g := gg) (cap := cap) (what := what) (hst2.keeps ((Keeps.refl _ _).drew)) (hst.ok f f0 HF.out) (hst.ok g g0 HG.out) (by omega) hsz (hk2.cell d0 (by simp)) (hk2.cell d1 (by simp)) (by simp) (hk2.cell hc0 (by simp)) (hk2.cell hc1 (by simp)))).mono ?_
    intro e w' hh
    rw [HE.out, HEg.out] at hh
    have hh' := hh.from (hkw.trans hk2)
    obtain ⟨x, y, rfl⟩ := hh.ends
    clear hh
    go_wp2_with fail
    go_ret2
    exact hh'

set_option maxRecDepth 100000 in
set_option maxHeartbeats 1000000 in
theorem choosec_any {w : World} {s hb t bn bm L nh sz : Nat} {od : Ord L} {lim given lb : Int} {V : Int → Option Fun} (h : St w s hb t bn bm od nh sz lim given V lb) {f g c : Int} {F G C : Fun} (hf : V f = some F) (hg : V g = some G) (hc : V c = some C) (hlb : lb + 100000 ≤ 4611686018427387904) (hg1 : given + 1 ≤ 4611686018427387904) :
    Calls Tryz.prog 26 #[.pointer (some ⟨s, 0, none⟩), .int .i64 f, .int .i64 g, .int .i64 c] w fun e w' => Held1 w s hb t bn bm od nh lim given V lb (fun a => if F a then G a else C a) e w' := by
  have hsz := h.szb
  obtain ⟨N, last, H, hst, k1, k2, k3, k4, k5, k6⟩ := h
  have hmf : ∀ (fn : Fn) (first cap : Array Value) (w : World), (Instr.makeFunc fn first cap).run Tryz.prog w = .ok (.func fn first cap) w := fun _ _ _ _ => rfl
  obtain ⟨f0, e0, e1⟩ := St.has k2 hf
  obtain ⟨g0, e2, e3⟩ := St.has k2 hg
  obtain ⟨c0, e4, e5⟩ := St.has k2 hc
  have hfit : Fits f := by have := hst.hr f f0 e0; unfold Fits; omega
  have hfitg : Fits g := by have := hst.hr g g0 e2; unfold Fits; omega
  have hfitc : Fits c := by have := hst.hr c c0 e4; unfold Fits; omega
  have hk : Keeps [] w ((w.alloc (.cells #[.pointer (some ⟨s, 0, none⟩)] 36)).alloc (.cells #[.int .i64 f, .int .i64 g, .int .i64 c] 3)) := ((Keeps.refl _ _).alloc _).alloc _
  have hst' := hst.keeps hk
  have HV : Hid (∀ x, V x = (H x).map (FV N od)) := k2
  have HF : Hid (H f = some f0) := e0
  have HG : Hid (H g = some g0) := e2
  have HC : Hid (H c = some c0) := e4
  have ls : s < w.heap.size := cell_lt (p := ⟨s, 0, none⟩) hst.c0
  have HE : Hid (FV N od f0 = F) := e1
  have HEg : Hid (FV N od g0 = G) := e3
  have HEc : Hid (FV N od c0 = C) := e5
  have hcells : ∀ j, j < [f, g, c].length → ((w.alloc (.cells #[Value.pointer (some ⟨s, 0, none⟩)] 36)).alloc (.cells #[.int .i64 f, .int .i64 g, .int .i64 c] 3)).cell? ⟨w.heap.size + 1, j, none⟩ = some (.int .i64 ([f, g, c].getD j 0)) := by
    intro j hj
    rw [World.cell?_alloc_at _ _ _ _ (by simp)]
    match j, hj with
    | 0, _ => rfl
    | 1, _ => rfl
    | 2, _ => rfl
  have hfits : ∀ j, j < [f, g, c].length → Fits ([f, g, c].getD j 0) := by
    intro j hj
    match j, hj with
    | 0, _ => exact hfit
    | 1, _ => exact hfitg
    | 2, _ => exact hfitc
  clear k2 hf hg hc e0 e1 e2 e3 e4 e5
  go_enter Tryz.func26, Tryz.ntmps26
  go_wp2_with fail
  refine (find_any (b := w.heap.size + 1) hst' [f, g, c] (by simp) hfits hcells (by simp)).mono ?_
  rintro e w1 (⟨⟨j, hj, hn⟩, _⟩ | ⟨_, gg, cap, rfl, hgg, hcell, hk1⟩)
  · exfalso
    match j, hj with
    | 0, _ => simp [HF.out] at hn
    | 1, _ => simp [HG.out] at hn
    | 2, _ => simp [HC.out] at hn
  · have hc0 := hcell 0 (by simp)
    have hc1 := hcell 1 (by simp)
    have hc2 := hcell 2 (by simp)
    simp [HF.out] at hc0
    simp [HG.out] at hc1
    simp [HC.out] at hc2
    have hst1 := hst'.keeps hk1
    have hkw := hk.trans hk1
    have d0 : w1.cell? ⟨w.heap.size, 0, none⟩ = some (.pointer (some ⟨s, 0, none⟩)) := hk1.cell (by simp) (by simp)
    have ld : w.heap.size < w1.heap.size := cell_lt (p := ⟨w.heap.size, 0, none⟩) d0
    have lg : gg < w1.heap.size := cell_lt (p := ⟨gg, 0, none⟩) hc0
    simp only [List.length_cons, List.length_nil, Nat.zero_add, Nat.reduceAdd]
    go_wp2_with fail
    have hk2 : Keeps [] w1 (w1.alloc (.cells #[.slice (some ⟨gg, 0, none⟩) 3 cap] 67)) := (Keeps.refl _ _).alloc _
    have hst2 := hst1.keeps hk2
    refine (hold_45 hst2 k1 HV.out k3 k4 k5 k6 hg1 _ _ (cho1_any (c1 := w.heap.size) (c2 := w1.heap.size) (g := gg) (cap := cap) (hst2.keeps ((Keeps.refl _ _).drew)) (hst.ok f f0 HF.out) (hst.ok g g0 HG.out) (hst.ok c c0 HC.out) (by omega) hsz (hk2.cell d0 (by simp)) (by simp) (hk2.cell hc0 (by simp)) (hk2.cell hc1 (by simp)) (hk2.cell hc2 (by simp)))).mono ?_
    intro e w' hh
    rw [HE.out, HEg.out, HEc.out] at hh
    have hh' := hh.from (hkw.trans hk2)
    obtain ⟨x, y, rfl⟩ := hh.ends
    clear hh
    go_wp2_with fail
    go_ret2
    exact hh'

end Go.Proofs.YtmgjegokkbghlaaGreat
