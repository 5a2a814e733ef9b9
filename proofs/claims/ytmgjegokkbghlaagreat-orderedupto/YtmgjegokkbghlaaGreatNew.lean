/- The walk of New. -/
import Derived.Test.YtmgjegokkbghlaaGreatHold
import Derived.Deep.AppendLies
import Derived.Deep.RegionLaw
namespace Go.Proofs.YtmgjegokkbghlaaGreat
open Go.RowKit Go.Maps Bdd
attribute [local go_sem ↓] Go.wp_at_zero Go.wp_at_succ

set_option maxRecDepth 100000 in
set_option maxHeartbeats 400000 in
theorem new_bad {w : World} {v l : Int} (h : v < 1 ∨ 8 < v ∨ l < 0 ∨ 2000 < l) : Calls Tryz.prog 11 #[.int .i64 v, .int .i64 l] w fun e w' => e = .returned (.tuple #[.pointer none, .int .i64 1]) ∧ Keeps [] w w' := by
  by_cases h1 : v < 1
  · go_enter Tryz.func11, Tryz.ntmps11
    go_wp2_with fail
    go_ret2
    exact ⟨rfl, Keeps.refl _ _⟩
  · by_cases h2 : 8 < v
    · go_enter Tryz.func11, Tryz.ntmps11
      go_wp2_with fail
      go_ret2
      exact ⟨rfl, Keeps.refl _ _⟩
    · by_cases h3 : l < 0
      · go_enter Tryz.func11, Tryz.ntmps11
        go_wp2_with fail
        go_ret2
        exact ⟨rfl, Keeps.refl _ _⟩
      · have h4 : 2000 < l := by omega
        go_enter Tryz.func11, Tryz.ntmps11
        go_wp2_with fail
        go_ret2
        exact ⟨rfl, Keeps.refl _ _⟩

theorem infoInt : (Tryz.prog.info? 3).map (fun i => (i.zero, i.size, i.bytes)) = some (some (.int .i64 0), 1, 8) := by kernel_rfl
/-- the first numbers -/
def numV (j : Nat) : List Value := (List.range j).map fun k : Nat => .int .i64 (k : Int)
theorem numV_succ (j : Nat) : numV (j + 1) = numV j ++ [.int .i64 (j : Int)] := by simp [numV, List.range_succ]
/-- a store that is being made -/
def NewS (w : World) (s : Nat) (l : Int) (v : Value) (hb t : Nat) : Prop := w.cell? ⟨s, 0, none⟩ = some (.int .i64 l) ∧ w.cell? ⟨s, 1, none⟩ = some (.int .i64 0) ∧ w.cell? ⟨s, 2, none⟩ = some v ∧ w.cell? ⟨s, 3, none⟩ = some (.map (some hb)) ∧ w.cell? ⟨s, 4, none⟩ = some (.pointer (some ⟨t, 0, none⟩)) ∧ ∀ i, w.frozen? ⟨s, i, none⟩ = false
theorem NewS.set {w w' : World} {s hb t : Nat} {l : Int} {v : Value} {S : List Nat} (h : NewS w s l v hb t) (hk : Keeps S w w') (hS : s ∉ S) (v' : Value) : NewS (w'.setCell ⟨s, 2, none⟩ v') s l v' hb t := by
  obtain ⟨h0, h1, h2, h3, h4, hf⟩ := h
  refine ⟨?_, ?_, World.cell?_setCell_same _ _ _ (hk.cell h2 hS), ?_, ?_, fun i => ?_⟩
  · rw [World.cell?_setCell_other _ _ _ _ (by simp)]; exact hk.cell h0 hS
  · rw [World.cell?_setCell_other _ _ _ _ (by simp)]; exact hk.cell h1 hS
  · rw [World.cell?_setCell_other _ _ _ _ (by simp)]; exact hk.cell h3 hS
  · rw [World.cell?_setCell_other _ _ _ _ (by simp)]; exact hk.cell h4 hS
  · rw [World.frozen?_setCell]; exact (hk.frozen (p := ⟨s, i, none⟩) (cell_lt (p := ⟨s, 0, none⟩) h0) hS).trans (hf i)

set_option maxRecDepth 100000 in
set_option maxHeartbeats 1000000 in
theorem new_good {w : World} {L : Nat} {l : Int} (h1 : 1 ≤ L) (h2 : L ≤ 8) (h3 : 0 ≤ l) (h4 : l ≤ 2000) :
    Calls Tryz.prog 11 #[.int .i64 L, .int .i64 l] w fun e w' => ∃ s hb t bn bm ob cap, e = .returned (.tuple #[.pointer (some ⟨s, 0, none⟩), .int .i64 0]) ∧ St w' s hb t bn bm (Ord.first L ob cap) 0 0 l 0 (fun _ => none) 1 ∧ Keeps [] w w' ∧ w.heap.size ≤ s ∧ w.heap.size ≤ hb ∧ w.heap.size ≤ t ∧ w.heap.size ≤ bn ∧ w.heap.size ≤ bm ∧ w.heap.size ≤ ob := by
  have hmm := @run_makeMap Tryz.prog
  have q1 : (1 : Int) ≤ (L : Int) := by omega
  have q2 : (L : Int) ≤ 8 := by omega
  go_enter Tryz.func11, Tryz.ntmps11
  go_wp2_with fail
  refine (newTable_any (top := (L : Int)) q2).mono ?_
  rintro e w1 ⟨t, bn, bm, rfl, k1, k2, k3, hT, hk⟩
  go_wp2_with fail
  obtain ⟨Y, hY⟩ : ∃ Y, Y = w1.alloc (Obj.cells #[Value.int IntKind.i64 l, Value.int IntKind.i64 0, Value.slice none 0 0, Value.map (some w.heap.size), Value.pointer (some { block := t, off := 0 })] 56) := ⟨_, rfl⟩
  rw [← hY]
  have hkY : Keeps [] w1 Y := by rw [hY]; exact (Keeps.refl _ _).alloc _
  have hlY : w1.heap.size + 1 = Y.heap.size := by rw [hY]; simp
  have y0 : Y.cell? ⟨w1.heap.size, 0, none⟩ = some (.int .i64 l) := by rw [hY]; simp
  have y1 : Y.cell? ⟨w1.heap.size, 1, none⟩ = some (.int .i64 0) := by rw [hY]; simp
  have y2 : Y.cell? ⟨w1.heap.size, 2, none⟩ = some (.slice none 0 0) := by rw [hY]; simp
  have y3 : Y.cell? ⟨w1.heap.size, 3, none⟩ = some (.map (some w.heap.size)) := by rw [hY]; simp
  have y4 : Y.cell? ⟨w1.heap.size, 4, none⟩ = some (.pointer (some ⟨t, 0, none⟩)) := by rw [hY]; simp
  have yf : ∀ i, Y.frozen? ⟨w1.heap.size, i, none⟩ = false := fun i => by rw [hY]; exact World.frozen?_alloc_at _ _ _ _ rfl
  have HT : Hid (TabAt w1 t bn bm 0 (fun _ => none) (L : Int) 1) := hT
  have HK : Hid (Keeps [] (w.alloc (Obj.map #[] 0)) w1) := hk
  obtain ⟨i0, hi, hz0, hz1, hz2⟩ := info_parts infoInt
  have hml : 100 < maxLen := by decide
  have hsz := hk.size
  simp at k1 k2 k3 hsz
  have lt : t < w1.heap.size := cell_lt (p := ⟨t, 0, none⟩) hT.c0
  have l2 := hT.names.lt
  have l3 := hT.nodes.lt
  clear hY hT hk
  go_loopw [28] (fun i wr => ∃ (j : Nat) (v : Value), j ≤ L ∧ i = .int .i64 j ∧ wr.ownsRow (w1.heap.size + 1) 3 1 v j (numV j) ∧ NewS wr w1.heap.size l v w.heap.size t ∧ Keeps [w1.heap.size] Y wr) (fun i _ => L - (intOf i).toNat)
  case atStart => exact ⟨0, _, by omega, rfl, World.ownsRow_nil _ _ _ _, ⟨y0, y1, y2, y3, y4, yf⟩, Keeps.refl _ _⟩
  case round =>
    clear y0 y1 y2 y3 y4 yf
    obtain ⟨j, v, hj, rfl, hown, hS, hkr⟩ := hrel
    by_cases hlt : j < L
    · have x2 := hS.2.2.1
      have xf := hS.2.2.2.2.2 2
      have hj0 : (0 : Int) ≤ (j : Int) := by omega
      have hj1 : (j : Int) < (L : Int) := by omega
      have hlr := hkr.size
      have hsl : w1.heap.size < wr.heap.size := by omega
      have HS : Hid (NewS wr w1.heap.size l v w.heap.size t) := hS
      clear hS
      go_wp2_with (first
        | (at_builtin; refine wpList_append_own_at _ rfl _ _ 31 rfl (w1.heap.size + 1) 3 i0 (.int .i64 0) 1 8 Tryz.underlying31 hi hz0 hz1 hz2 rfl (by decide) _ j (numV j) rfl (hown.alloc _) ⟨wr.heap.size, 0, none⟩ 1 1 [.int .i64 j] rfl rfl (cell_one_new _ _ _) (ints_oneCell .i64 [(j : Int)]) (by omega) (by omega) (by simp; omega) ?_; intro v' w2 hown' hgrow hnil hloc; have kk : Keeps v.ownBlock.toList wr w2 := ((Keeps.refl _ _).alloc _).grown hgrow (fun k hk' => Or.inl (Option.mem_toList.2 hk')); have nin : w1.heap.size ∉ v.ownBlock.toList := (fun hin => by have := (hown.lt w1.heap.size (by simpa using hin)).1; omega); have x2' := kk.cell x2 nin; have xf' : w2.frozen? ⟨w1.heap.size, 2, none⟩ = false := (kk.frozen (p := ⟨w1.heap.size, 2, none⟩) hsl nin).trans xf; obtain ⟨g2, cap2, hv2⟩ : ∃ g2 cap2, v' = .slice (some ⟨g2, 0, none⟩) (j + 1) cap2 := (by rcases hown'.2 with ⟨_, h0⟩ | ⟨g2, cap2, cur, hv, _⟩ <;> first | omega | exact ⟨g2, cap2, hv⟩); subst hv2)
        | fail)
      go_roundw
      case rel =>
        refine ⟨j + 1, _, by omega, by go_num, ?_, HS.out.set kk nin _, ?_⟩
        · rw [numV_succ]
          exact ownsRow_setCell_other hown' (fun hin => by have := (hown'.lt w1.heap.size hin).1; omega) _
        · exact ((hkr.alloc _).grown hgrow (fun k hk' => Or.inr (by have := (hown.lt k hk').1; omega))).setCell _ (Or.inl (by simp)) _
      case measure => simp [intOf]; omega
    · have e : j = L := by omega
      subst e
      go_wp2_with fail
      go_ret2
      obtain ⟨g, cap, hv⟩ : ∃ g cap, v = .slice (some ⟨g, 0, none⟩) j cap := by
        rcases hown.2 with ⟨_, h0⟩ | ⟨g, cap, cur, hv, _⟩
        · omega
        · exact ⟨g, cap, hv⟩
      subst hv
      have hg := hown.lt g rfl
      obtain ⟨z0, z1, z2, z3, z4, zf⟩ := hS
      have hkw1 : Keeps [] w1 wr := ((hkY.mono (by simp)).trans hkr).strike (by simp)
      have hT := HT.out.keeps hkw1 (by simp) (by simp) (by simp)
      have hm := ((MapIs.made w Tryz.prog 3).keeps HK.out (by simp)).keeps hkw1 (by simp)
      refine ⟨w1.heap.size, w.heap.size, t, bn, bm, g, cap, rfl, ⟨fun _ => none, 1, fun _ => none, ⟨hT, z0, z1, z2, z3, z4, zf 1, ?_, ?_, by omega, by omega, by omega, by omega, ?_, ?_, fun h f hf => (by cases hf), fun h f hf => (by cases hf), by omega, by omega⟩, fun x n hx => (by cases hx), fun h => rfl, by omega, fun h hh => (by cases hh), by omega, by omega⟩, ((((Keeps.refl _ _).alloc _).trans HK.out)).trans hkw1, by omega, by omega, by omega, by omega, by omega, by omega⟩
      · exact hm.congr (fun v _ _ => by unfold heldG; split <;> rfl)
      · intro k hk
        refine ⟨?_, hown.frozenAt k⟩
        show wr.cell? ⟨g, k, none⟩ = _
        rw [hown.cellAt k (by omega)]
        simp [numV, hk, Ord.first]
      · show g ≠ _; omega
      · show g ≠ _; omega

end Go.Proofs.YtmgjegokkbghlaaGreat
