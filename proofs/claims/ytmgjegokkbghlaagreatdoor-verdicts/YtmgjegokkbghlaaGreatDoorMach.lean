/- A machine in memory, and what is asked of it. -/
import Derived.Test.YtmgjegokkbghlaaGreatDoorReadC
import Derived.Test.YtmgjegokkbghlaaGreatDoorSwap
import Derived.Test.YtmgjegokkbghlaaGreatDoorLeast
namespace Go.Proofs.YtmgjegokkbghlaaGreatDoor
open Go.RowKit Go.Maps Bdd
set_option linter.unusedVariables false

/-- what was a name of a function still is -/
def Ext (N N' : Tab) : Prop := ∀ r F, Val N r F → Val N' r F
theorem Ext.refl (N : Tab) : Ext N N := fun _ _ h => h
theorem Ext.trans {A B C : Tab} (h : Ext A B) (k : Ext B C) : Ext A C := fun r F v => k r F (h r F v)
/-- a machine's head in memory: its table, how many latches and inputs; K bounds the names and nodes so far -/
structure Mk (w : World) (m t bn bm L I K : Nat) (N : Tab) : Prop where
  tab : ∃ sz last, TabAt w t bn bm sz N ((2 * L + I : Nat) : Int) last ∧ last ≤ (K : Int) ∧ sz ≤ K
  lt : m < w.heap.size
  off : m ∉ [t, bn, bm]
  c0 : w.cell? ⟨m, 0, none⟩ = some (.pointer (some ⟨t, 0, none⟩))
  c1 : w.cell? ⟨m, 1, none⟩ = some (.int .i64 (L : Int))
  c2 : w.cell? ⟨m, 2, none⟩ = some (.int .i64 (I : Int))
  hL : L ≤ 4
  hI : I ≤ 3
def Big : Nat := 1000000000000
theorem big_max : Big + 10000000 < maxLen := by decide
theorem big_fit : (Big : Int) + 10000000 ≤ 4611686018427387904 := by decide
theorem Mk.step {w w' : World} {m t bn bm L I K K' : Nat} {N N' : Tab} (h : Mk w m t bn bm L I K N) {sz : Nat} {last : Int} (hT : TabAt w' t bn bm sz N' ((2 * L + I : Nat) : Int) last) (h1 : last ≤ (K' : Int)) (h2 : sz ≤ K') (hk : Keeps [t, bn, bm] w w') : Mk w' m t bn bm L I K' N' :=
  ⟨⟨sz, last, hT, h1, h2⟩, Nat.lt_of_lt_of_le h.lt hk.size, h.off, hk.cell h.c0 h.off, hk.cell h.c1 h.off, hk.cell h.c2 h.off, h.hL, h.hI⟩
theorem Mk.keeps {w w' : World} {m t bn bm L I K : Nat} {N : Tab} {S : List Nat} (h : Mk w m t bn bm L I K N) (hk : Keeps S w w') (hm : m ∉ S) (h1 : t ∉ S) (h2 : bn ∉ S) (h3 : bm ∉ S) : Mk w' m t bn bm L I K N := by
  obtain ⟨sz, last, hT, h4, h5⟩ := h.tab
  exact ⟨⟨sz, last, hT.keeps hk h1 h2 h3, h4, h5⟩, Nat.lt_of_lt_of_le h.lt hk.size, h.off, hk.cell h.c0 hm, hk.cell h.c1 hm, hk.cell h.c2 hm, h.hL, h.hI⟩
theorem Mk.mono {w : World} {m t bn bm L I K K' : Nat} {N : Tab} (h : Mk w m t bn bm L I K N) (hK : K ≤ K') : Mk w m t bn bm L I K' N := by
  obtain ⟨sz, last, hT, h4, h5⟩ := h.tab
  exact ⟨⟨sz, last, hT, by omega, by omega⟩, h.lt, h.off, h.c0, h.c1, h.c2, h.hL, h.hI⟩
/-- a function that is answered -/
def Res (w : World) (m t bn bm L I K : Nat) (N : Tab) (F : Fun) (e : Ending) (w' : World) : Prop := ∃ r N', e = .returned (.int .i64 r) ∧ Mk w' m t bn bm L I K N' ∧ Ext N N' ∧ Val N' r F ∧ Keeps [t, bn, bm] w w'

theorem mvariable {w : World} {m t bn bm L I K : Nat} {N : Tab} (h : Mk w m t bn bm L I K N) {i : Int} (h0 : 0 ≤ i) (h1 : i < ((2 * L + I : Nat) : Int)) (hK : K ≤ Big) :
    Calls Tryz.prog 37 #[.pointer (some ⟨t, 0, none⟩), .int .i64 i] w fun e w' => Res w m t bn bm L I (K + 1) N (fun a => a i) e w' := by
  obtain ⟨sz, last, hT, h4, h5⟩ := h.tab
  have hb := big_max
  have hf := big_fit
  refine (tvariable_any hT h0 h1 (by omega) (by omega)).mono ?_
  rintro e w1 ⟨r, N', last', sz', rfl, g1, g2, g3, g4, g5, g6, g7, g8⟩
  exact ⟨r, N', rfl, h.step g1 (by omega) (by omega) g8, fun x F hv => hv.sub hT.wf g1.wf g2, ⟨g3, g4⟩, g8⟩
theorem mnot {w : World} {m t bn bm L I K : Nat} {N : Tab} (h : Mk w m t bn bm L I K N) {f : Int} {F : Fun} (hv : Val N f F) (hK : K ≤ Big) :
    Calls Tryz.prog 39 #[.pointer (some ⟨t, 0, none⟩), .int .i64 f] w fun e w' => Res w m t bn bm L I (K + 2048) N (fun a => !F a) e w' := by
  obtain ⟨sz, last, hT, h4, h5⟩ := h.tab
  have hb := big_max
  have hf := big_fit
  refine (tnot_any hT hv.1 (by omega) (by omega)).mono ?_
  rintro e w1 ⟨r, N', last', sz', rfl, g1, g2, g3, g4, g5, g6, g7, g8⟩
  exact ⟨r, N', rfl, h.step g1 (by omega) (by omega) g8, fun x F hv => hv.sub hT.wf g1.wf g2, ⟨g3, fun a => by rw [g4, hv.2]⟩, g8⟩
theorem mchoose {w : World} {m t bn bm L I K : Nat} {N : Tab} (h : Mk w m t bn bm L I K N) {f g k : Int} {F G H : Fun} (hv : Val N f F) (hg : Val N g G) (hh : Val N k H) (hK : K ≤ Big) :
    Calls Tryz.prog 38 #[.pointer (some ⟨t, 0, none⟩), .int .i64 f, .int .i64 g, .int .i64 k] w fun e w' => Res w m t bn bm L I (K + 2048) N (fun a => if F a then G a else H a) e w' := by
  obtain ⟨sz, last, hT, h4, h5⟩ := h.tab
  have hb := big_max
  have hf := big_fit
  refine (tchoose_any hT hv.1 hg.1 hh.1 (by omega) (by omega)).mono ?_
  rintro e w1 ⟨r, N', last', sz', rfl, g1, g2, g3, g4, g5, g6, g7, g8⟩
  exact ⟨r, N', rfl, h.step g1 (by omega) (by omega) g8, fun x F hv => hv.sub hT.wf g1.wf g2, ⟨g3, fun a => by rw [g4, hv.2, hg.2, hh.2]⟩, g8⟩
theorem mcombine {w : World} {m t bn bm L I K : Nat} {N : Tab} (h : Mk w m t bn bm L I K N) (what : Int) {f g : Int} {F G : Fun} (hv : Val N f F) (hg : Val N g G) (hK : K ≤ Big) :
    Calls Tryz.prog 66 #[.pointer (some ⟨t, 0, none⟩), .int .i64 what, .int .i64 f, .int .i64 g] w fun e w' => Res w m t bn bm L I (K + 4096) N (fun a => app what (F a) (G a)) e w' := by
  obtain ⟨sz, last, hT, h4, h5⟩ := h.tab
  have hb := big_max
  have hf := big_fit
  refine (combine_any hT hv.1 hg.1 (by omega) (by omega)).mono ?_
  rintro e w1 ⟨r, N', last', sz', rfl, g1, g2, g3, g4, g5, g6, g7, g8⟩
  exact ⟨r, N', rfl, h.step g1 (by omega) (by omega) g8, fun x F hv => hv.sub hT.wf g1.wf g2, ⟨g3, fun a => by rw [g4, hv.2, hg.2]⟩, g8⟩
theorem mrestrict {w : World} {m t bn bm L I K : Nat} {N : Tab} (h : Mk w m t bn bm L I K N) {f lv : Int} (v : Bool) {F : Fun} (hv : Val N f F) (h0 : 0 ≤ lv) (h1 : lv < ((2 * L + I : Nat) : Int)) (hK : K ≤ Big) :
    Calls Tryz.prog 149 #[.pointer (some ⟨t, 0, none⟩), .int .i64 f, .int .i64 lv, .bool v] w fun e w' => Res w m t bn bm L I (K + 2048) N (fun a => F (setAt a lv v)) e w' := by
  obtain ⟨sz, last, hT, h4, h5⟩ := h.tab
  have hb := big_max
  have hf := big_fit
  refine (trestrict_any hT hv.1 h0 h1 (by omega) (by omega)).mono ?_
  rintro e w1 ⟨r, N', last', sz', rfl, g1, g2, g3, g4, g5, g6, g7, g8⟩
  exact ⟨r, N', rfl, h.step g1 (by omega) (by omega) g8, fun x F hv => hv.sub hT.wf g1.wf g2, ⟨g3, fun a => by rw [g4, hv.2]⟩, g8⟩
theorem mswap {w : World} {m t bn bm L I K : Nat} {N : Tab} (h : Mk w m t bn bm L I K N) {f i j : Int} {F : Fun} (hv : Val N f F) (hi0 : 0 ≤ i) (hi1 : i < ((2 * L + I : Nat) : Int)) (hj0 : 0 ≤ j) (hj1 : j < ((2 * L + I : Nat) : Int)) (hK : K ≤ Big) :
    Calls Tryz.prog 137 #[.pointer (some ⟨t, 0, none⟩), .int .i64 f, .int .i64 i, .int .i64 j] w fun e w' => Res w m t bn bm L I (K + 40000) N (fun a => F (swapA a i j)) e w' := by
  obtain ⟨sz, last, hT, h4, h5⟩ := h.tab
  have hb := big_max
  have hf := big_fit
  refine (tswap_any hT hv hi0 hi1 hj0 hj1 (by omega) (by omega)).mono ?_
  rintro e w1 ⟨r, N', last', sz', rfl, g1, g2, g3, g5, g6, g7, g8⟩
  exact ⟨r, N', rfl, h.step g1 (by omega) (by omega) g8, fun x F hv => hv.sub hT.wf g1.wf g2, g3, g8⟩

set_option maxRecDepth 100000 in
set_option maxHeartbeats 400000 in
theorem and_any {w : World} {m t bn bm L I K : Nat} {N : Tab} (h : Mk w m t bn bm L I K N) {f g : Int} {F G : Fun} (hv : Val N f F) (hg : Val N g G) (hK : K ≤ Big) :
    Calls Tryz.prog 34 #[.pointer (some ⟨m, 0, none⟩), .int .i64 f, .int .i64 g] w fun e w' => Res w m t bn bm L I (K + 4096) N (fun a => F a && G a) e w' := by
  have c0 := h.c0
  have HC := mcombine h 0 hv hg hK
  clear h hv hg
  go_enter Tryz.func34, Tryz.ntmps34
  go_wp2_with fail
  refine HC.mono ?_
  rintro e w1 ⟨r, N', rfl, g1, g2, g3, g4⟩
  go_wp2_with fail
  go_ret
  exact ⟨r, N', rfl, g1, g2, ⟨g3.1, fun a => by rw [g3.2]; simp [app]⟩, g4⟩
set_option maxRecDepth 100000 in
set_option maxHeartbeats 400000 in
theorem or_any {w : World} {m t bn bm L I K : Nat} {N : Tab} (h : Mk w m t bn bm L I K N) {f g : Int} {F G : Fun} (hv : Val N f F) (hg : Val N g G) (hK : K ≤ Big) :
    Calls Tryz.prog 43 #[.pointer (some ⟨m, 0, none⟩), .int .i64 f, .int .i64 g] w fun e w' => Res w m t bn bm L I (K + 4096) N (fun a => F a || G a) e w' := by
  have c0 := h.c0
  have HC := mcombine h 1 hv hg hK
  clear h hv hg
  go_enter Tryz.func43, Tryz.ntmps43
  go_wp2_with fail
  refine HC.mono ?_
  rintro e w1 ⟨r, N', rfl, g1, g2, g3, g4⟩
  go_wp2_with fail
  go_ret
  exact ⟨r, N', rfl, g1, g2, ⟨g3.1, fun a => by rw [g3.2]; simp [app]⟩, g4⟩

end Go.Proofs.YtmgjegokkbghlaaGreatDoor
