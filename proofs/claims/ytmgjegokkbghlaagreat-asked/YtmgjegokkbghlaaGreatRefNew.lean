/- The document's store: New. -/
import Derived.Test.YtmgjegokkbghlaaGreatRefHold
import Derived.Maps.AppendAt
namespace Go.Proofs.YtmgjegokkbghlaaGreat
open Go.RowKit Go.Maps Bdd
attribute [local go_sem ↓] Go.wp_at_zero Go.wp_at_succ

theorem infoIntR : (Tryz.prog.info? 3).map (fun i => (i.zero, i.size, i.bytes)) = some (some (.int .i64 0), 1, 8) := by kernel_rfl
/-- the first numbers -/
def numR (j : Nat) : List Value := (List.range j).map fun k : Nat => .int .i64 (k : Int)
theorem numR_succ (j : Nat) : numR (j + 1) = numR j ++ [.int .i64 (j : Int)] := by simp [numR, List.range_succ]
/-- a store that is being made -/
def NewR (w : World) (r n : Nat) (l : Int) (v : Value) : Prop := w.cell? ⟨r, 0, none⟩ = some (.int .i64 (n : Int)) ∧ w.cell? ⟨r, 1, none⟩ = some (.int .i64 l) ∧ w.cell? ⟨r, 2, none⟩ = some (.int .i64 0) ∧ w.cell? ⟨r, 3, none⟩ = some v ∧ w.cell? ⟨r, 4, none⟩ = some (.slice none 0 0) ∧ ∀ i, w.frozen? ⟨r, i, none⟩ = false
theorem NewR.set {w w' : World} {r n : Nat} {l : Int} {v : Value} {S : List Nat} (h : NewR w r n l v) (hk : Keeps S w w') (hS : r ∉ S) (v' : Value) : NewR (w'.setCell ⟨r, 3, none⟩ v') r n l v' := by
  obtain ⟨h0, h1, h2, h3, h4, hf⟩ := h
  refine ⟨?_, ?_, ?_, World.cell?_setCell_same _ _ _ (hk.cell h3 hS), ?_, fun i => ?_⟩
  · rw [World.cell?_setCell_other _ _ _ _ (by simp)]; exact hk.cell h0 hS
  · rw [World.cell?_setCell_other _ _ _ _ (by simp)]; exact hk.cell h1 hS
  · rw [World.cell?_setCell_other _ _ _ _ (by simp)]; exact hk.cell h2 hS
  · rw [World.cell?_setCell_other _ _ _ _ (by simp)]; exact hk.cell h4 hS
  · rw [World.frozen?_setCell]; exact (hk.frozen (p := ⟨r, i, none⟩) (cell_lt (p := ⟨r, 0, none⟩) h0) hS).trans (hf i)

set_option maxRecDepth 100000 in
set_option maxHeartbeats 400000 in
theorem rnew_bad {w : World} {v l : Int} (h : v < 1 ∨ 8 < v ∨ l < 0 ∨ 2000 < l) : Calls Tryz.prog 12 #[.int .i64 v, .int .i64 l] w fun e w' => e = .returned (.tuple #[.pointer none, .int .i64 1]) ∧ Keeps [] w w' := by
  by_cases h1 : v < 1
  · go_enter Tryz.func12, Tryz.ntmps12
    go_wp2_with fail
    go_ret2
    exact ⟨rfl, Keeps.refl _ _⟩
  · by_cases h2 : 8 < v
    · go_enter Tryz.func12, Tryz.ntmps12
      go_wp2_with fail
      go_ret2
      exact ⟨rfl, Keeps.refl _ _⟩
    · by_cases h3 : l < 0
      · go_enter Tryz.func12, Tryz.ntmps12
        go_wp2_with fail
        go_ret2
        exact ⟨rfl, Keeps.refl _ _⟩
      · have h4 : 2000 < l := by omega
        go_enter Tryz.func12, Tryz.ntmps12
        go_wp2_with fail
        go_ret2
        exact ⟨rfl, Keeps.refl _ _⟩

set_option maxRecDepth 100000 in
set_option maxHeartbeats 1000000 in
theorem rnew_good {w : World} {n : Nat} {l : Int} (h1 : 1 ≤ n) (h2 : n ≤ 8) (h3 : 0 ≤ l) (h4 : l ≤ 2000) :
    Calls Tryz.prog 12 #[.int .i64 n, .int .i64 l] w fun e w' => e = .returned (.tuple #[.pointer (some ⟨w.heap.size, 0, none⟩), .int .i64 0]) ∧ ∃ ov, RSt w' w.heap.size n l 0 ov (.slice none 0 0) (Ord.first n) [] ∧ (∀ g, ov.ownBlock = some g → w.heap.size ≤ g) ∧ Keeps [] w w' := by
  have q1 : (1 : Int) ≤ (n : Int) := by omega
  have q2 : (n : Int) ≤ 8 := by omega
  obtain ⟨i0, hi, hz0, hz1, hz2⟩ := info_parts infoIntR
  have hml : 100 < maxLen := by decide
  obtain ⟨Y, hY⟩ : ∃ Y, Y = w.alloc (Obj.cells #[Value.int IntKind.i64 n, Value.int IntKind.i64 l, Value.int IntKind.i64 0, Value.slice none 0 0, Value.slice none 0 0] 59) := ⟨_, rfl⟩
  have hkY : Keeps [] w Y := by rw [hY]; exact (Keeps.refl _ _).alloc _
  have hlY : w.heap.size + 1 = Y.heap.size := by rw [hY]; simp
  have hN : NewR Y w.heap.size n l (.slice none 0 0) := by
    rw [hY]
    exact ⟨by simp, by simp, by simp, by simp, by simp, fun i => World.frozen?_alloc_at _ _ _ _ rfl⟩
  have HN : Hid (NewR Y w.heap.size n l (.slice none 0 0)) := hN
  have HY : Hid (Y = w.alloc (Obj.cells #[Value.int IntKind.i64 n, Value.int IntKind.i64 l, Value.int IntKind.i64 0, Value.slice none 0 0, Value.slice none 0 0] 59)) := hY
  clear hY hN
  go_enter Tryz.func12, Tryz.ntmps12
  go_wp2_with fail
  rw [← HY.out]
  go_loopw [7] (fun i wr => ∃ (j : Nat) (v : Value), j ≤ n ∧ i = .int .i64 j ∧ wr.ownsRow (w.heap.size + 1) 3 1 v j (numR j) ∧ NewR wr w.heap.size n l v ∧ Keeps [w.heap.size] Y wr) (fun i _ => n - (intOf i).toNat)
  case atStart => exact ⟨0, _, by omega, rfl, World.ownsRow_nil _ _ _ _, HN.out, Keeps.refl _ _⟩
  case round =>
    clear HN
    obtain ⟨j, v, hj, rfl, hown, hS, hkr⟩ := hrel
    by_cases hlt : j < n
    · have x2 := hS.2.2.2.1
      have xf := hS.2.2.2.2.2 3
      have hj0 : (0 : Int) ≤ (j : Int) := by omega
      have hj1 : (j : Int) < (n : Int) := by omega
      have hlr := hkr.size
      have hsl : w.heap.size < wr.heap.size := by omega
      have HS : Hid (NewR wr w.heap.size n l v) := hS
      clear hS
      go_wp2_with (first
        | (at_builtin; refine wpList_append_own_at _ rfl _ _ 31 rfl (w.heap.size + 1) 3 i0 (.int .i64 0) 1 8 Tryz.underlying31 hi hz0 hz1 hz2 rfl (by decide) _ j (numR j) rfl (hown.alloc _) ⟨wr.heap.size, 0, none⟩ 1 1 [.int .i64 j] rfl rfl (cell_one_new _ _ _) (ints_oneCell .i64 [(j : Int)]) (by omega) (by omega) (by simp; omega) ?_; intro v' w2 hown' hgrow hnil hloc; have kk : Keeps v.ownBlock.toList wr w2 := ((Keeps.refl _ _).alloc _).grown hgrow (fun k hk' => Or.inl (Option.mem_toList.2 hk')); have nin : w.heap.size ∉ v.ownBlock.toList := (fun hin => by have := (hown.lt w.heap.size (by simpa using hin)).1; omega); have x2' := kk.cell x2 nin; have xf' : w2.frozen? ⟨w.heap.size, 3, none⟩ = false := (kk.frozen (p := ⟨w.heap.size, 3, none⟩) hsl nin).trans xf; obtain ⟨g2, cap2, hv2⟩ : ∃ g2 cap2, v' = .slice (some ⟨g2, 0, none⟩) (j + 1) cap2 := (by rcases hown'.2 with ⟨_, h0⟩ | ⟨g2, cap2, cur, hv, _⟩ <;> first | omega | exact ⟨g2, cap2, hv⟩); subst hv2)
        | fail)
      go_roundw
      case rel =>
        refine ⟨j + 1, _, by omega, by go_num, ?_, HS.out.set kk nin _, ?_⟩
        · rw [numR_succ]
          exact ownsRow_setCell_other hown' (fun hin => by have := (hown'.lt w.heap.size hin).1; omega) _
        · exact ((hkr.alloc _).grown hgrow (fun k hk' => Or.inr (by have := (hown.lt k hk').1; omega))).setCell _ (Or.inl (by simp)) _
      case measure => simp [intOf]; omega
    · have e : j = n := by omega
      subst e
      have hjj : ¬ (j : Int) < (j : Int) := by omega
      go_wp2_with fail
      go_ret2
      obtain ⟨g, cap, hv⟩ : ∃ g cap, v = .slice (some ⟨g, 0, none⟩) j cap := by
        rcases hown.2 with ⟨_, h0⟩ | ⟨g, cap, cur, hv, _⟩
        · omega
        · exact ⟨g, cap, hv⟩
      subst hv
      have hg := hown.lt g rfl
      obtain ⟨z0, z1, z2, z3, z4, zf⟩ := hS
      refine ⟨rfl, _, ⟨z0, z1, z2, z3, zf, ⟨z4, World.ownsRow_nil _ _ _ _⟩, ⟨g, cap, rfl, by omega, by simp [Value.ownBlock], fun k hk => ?_⟩, by simp [Value.ownBlock]⟩, fun g' hg' => ?_, ((hkY.mono (by simp)).trans hkr).strike (by simp)⟩
      · rw [Nat.zero_add, hown.cellAt k (by omega)]
        simp [numR, hk, Ord.first]
      · have := (hown.lt g' hg').1; omega

end Go.Proofs.YtmgjegokkbghlaaGreat
