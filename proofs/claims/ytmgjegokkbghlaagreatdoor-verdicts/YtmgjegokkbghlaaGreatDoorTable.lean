/- The walks of Choose, Not, Variable of a table. -/
import Derived.Test.YtmgjegokkbghlaaGreatDoorChooseRec
namespace Go.Proofs.YtmgjegokkbghlaaGreatDoor
open Go.RowKit Go.Maps Bdd

abbrev Fun := (Int → Bool) → Bool

set_option maxRecDepth 100000 in
set_option maxHeartbeats 400000 in
theorem tchoose_any {w : World} {t bn bm sz : Nat} {N : Tab} {top last : Int} (hT : TabAt w t bn bm sz N top last) {f g h : Int} (hf : Ok N 0 f) (hg : Ok N 0 g) (hh : Ok N 0 h) (hb1 : last + 2048 ≤ 4611686018427387904) (hb2 : sz + 2048 < maxLen) :
    Calls Tryz.prog 38 #[.pointer (some ⟨t, 0, none⟩), .int .i64 f, .int .i64 g, .int .i64 h] w fun e w' => ∃ r N' last' sz', e = .returned (.int .i64 r) ∧ TabAt w' t bn bm sz' N' top last' ∧ Sub N N' ∧ Ok N' 0 r ∧
    (∀ a, E N' r a = if E N f a then E N g a else E N h a) ∧ last ≤ last' ∧ last' ≤ last + 2048 ∧ sz' ≤ sz + 2048 ∧ Keeps [t, bn, bm] w w' := by
  have hmm := @run_makeMap Tryz.prog
  have hk : Keeps [] w (w.alloc (.map #[] 0)) := (Keeps.refl _ _).alloc _
  have hl : t < w.heap.size := cell_lt (p := ⟨t, 0, none⟩) hT.c0
  have l2 := hT.names.lt
  have l3 := hT.nodes.lt
  have hp : pw 11 = 2048 := by decide
  have ht8 := hT.wf.tops
  have hml : 2048 < maxLen := by decide
  go_enter Tryz.func38, Tryz.ntmps38
  go_wp2_with fail
  refine (ChooseSaid.at (choose_any 11) 0 f g h (hT.grow hk) (MapIs.made w Tryz.prog 160) (DoneOk.none N) (by omega) (by omega) (by omega) (by omega) hf hg hh (by rw [hp]; omega) (by rw [hp]; omega) (by rw [hp]; omega)).mono ?_
  rintro e w1 ⟨r, N', last', sz', n', G', rfl, h1, h2, h3, h4, h5, h6, h7, h8, h9, h10, h11⟩
  rw [hp] at h8 h9
  go_wp2_with fail
  go_ret
  refine ⟨r, N', last', sz', rfl, h1, h4, h5, h6, h7, by omega, by omega, ?_⟩
  exact ((hk.mono (by simp)).trans h11).strike (by simp)

theorem tnot_any {w : World} {t bn bm sz : Nat} {N : Tab} {top last : Int} (hT : TabAt w t bn bm sz N top last) {f : Int} (hf : Ok N 0 f) (hb1 : last + 2048 ≤ 4611686018427387904) (hb2 : sz + 2048 < maxLen) :
    Calls Tryz.prog 39 #[.pointer (some ⟨t, 0, none⟩), .int .i64 f] w fun e w' => ∃ r N' last' sz', e = .returned (.int .i64 r) ∧ TabAt w' t bn bm sz' N' top last' ∧ Sub N N' ∧ Ok N' 0 r ∧
    (∀ a, E N' r a = !E N f a) ∧ last ≤ last' ∧ last' ≤ last + 2048 ∧ sz' ≤ sz + 2048 ∧ Keeps [t, bn, bm] w w' := by
  go_enter Tryz.func39, Tryz.ntmps39
  go_wp2_with fail
  refine (tchoose_any hT hf (ok_zero _) (ok_one _) hb1 hb2).mono ?_
  rintro e w1 ⟨r, N', last', sz', rfl, h1, h2, h3, h4, h5, h6, h7, h8⟩
  go_wp2_with fail
  go_ret
  refine ⟨r, N', last', sz', rfl, h1, h2, h3, fun a => ?_, h5, h6, h7, h8⟩
  rw [h4, E_zero hT.wf, E_one hT.wf]
  cases E N f a <;> rfl

theorem tvariable_any {w : World} {t bn bm sz : Nat} {N : Tab} {top last : Int} (hT : TabAt w t bn bm sz N top last) {i : Int} (h0 : 0 ≤ i) (h1 : i < top) (hb1 : last + 1 ≤ 4611686018427387904) (hb2 : sz + 1 < maxLen) :
    Calls Tryz.prog 37 #[.pointer (some ⟨t, 0, none⟩), .int .i64 i] w fun e w' => ∃ r N' last' sz', e = .returned (.int .i64 r) ∧ TabAt w' t bn bm sz' N' top last' ∧ Sub N N' ∧ Ok N' 0 r ∧
    (∀ a, E N' r a = a i) ∧ last ≤ last' ∧ last' ≤ last + 1 ∧ sz' ≤ sz + 1 ∧ Keeps [t, bn, bm] w w' := by
  go_enter Tryz.func37, Tryz.ntmps37
  go_wp2_with fail
  refine (join_at hT i 0 1 h0 h1 (ok_zero _) (ok_one _) hb1 hb2).mono ?_
  rintro e w1 ⟨r, N', last', sz', rfl, h1, h2, h3, h4, h5, h6, h7, h8⟩
  go_wp2_with fail
  go_ret
  refine ⟨r, N', last', sz', rfl, h1, h2, h3.mono h0, fun a => ?_, h5, h6, h7, h8⟩
  rw [h4, E_zero hT.wf, E_one hT.wf]
  cases a i <;> rfl

/-- a list of truth values in memory -/
def Truths (w : World) (vb vo : Nat) (L : Nat) (a : Int → Bool) : Prop := ∀ i : Nat, i < L → w.cell? ⟨vb, vo + i, none⟩ = some (.bool (a i))

end Go.Proofs.YtmgjegokkbghlaaGreatDoor
