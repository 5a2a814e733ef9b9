/- The walks of New, find. -/
import Derived.Test.YtmgjegokkbghlaaGreatStore
import Derived.Maps.AppendAt
namespace Go.Proofs.YtmgjegokkbghlaaGreat
open Go.RowKit Go.Maps Bdd

theorem info69 : (Tryz.prog.info? 95).map (fun i => (i.zero, i.size, i.bytes)) = some (some (.int .i64 0), 1, 8) := by kernel_rfl

/-- the functions found so far -/
def fv (H : Int → Option Int) (hl : List Int) (j : Nat) : List Value := (hl.take j).map fun h => .int .i64 ((H h).getD 0)
theorem fv_succ (H : Int → Option Int) (hl : List Int) (j : Nat) (hj : j < hl.length) {f : Int} (hf : H (hl.getD j 0) = some f) : fv H hl (j + 1) = fv H hl j ++ [.int .i64 f] := by
  have e : hl.getD j 0 = hl[j] := by simp [List.getD, hj]
  rw [e] at hf
  unfold fv
  rw [List.take_succ_eq_append_getElem hj, List.map_append, List.map_cons, List.map_nil, hf]
  rfl
theorem fv_len (H : Int → Option Int) (hl : List Int) (j : Nat) (hj : j ≤ hl.length) : (fv H hl j).length = j := by simp [fv]; omega

set_option maxRecDepth 100000 in
set_option maxHeartbeats 1000000 in
theorem find_any {w : World} {s hb t bn bm sz nh L b : Nat} {od : Ord L} {lim given : Int} {N : Tab} {last : Int} {H : Int → Option Int} (h : StAt w s hb t bn bm sz nh od lim given N last H) (hl : List Int) (hn : hl.length ≤ 3) (hfit : ∀ j, j < hl.length → Fits (hl.getD j 0))
    (hc : ∀ j, j < hl.length → w.cell? ⟨b, j, none⟩ = some (.int .i64 (hl.getD j 0))) (hpos : 0 < hl.length) :
    Calls Tryz.prog 40 #[.pointer (some ⟨s, 0, none⟩), .slice (some ⟨b, 0, none⟩) hl.length hl.length] w fun e w' =>
      ((∃ j, j < hl.length ∧ H (hl.getD j 0) = none) ∧ e = .returned (.tuple #[.slice none 0 0, .int .i64 2]) ∧ Keeps [] w w') ∨
      ((∀ j, j < hl.length → (H (hl.getD j 0)).isSome = true) ∧ ∃ g cap, e = .returned (.tuple #[.slice (some ⟨g, 0, none⟩) hl.length cap, .int .i64 0]) ∧ w.heap.size ≤ g ∧ (∀ j, j < hl.length → w'.cell? ⟨g, j, none⟩ = some (.int .i64 ((H (hl.getD j 0)).getD 0))) ∧ Keeps [] w w') := by
  obtain ⟨n, hnn⟩ : ∃ n, n = hl.length := ⟨_, rfl⟩
  rw [← hnn] at hn hfit hc hpos ⊢
  have HL : Hid (n = hl.length) := hnn
  obtain ⟨i0, hi, hz0, hz1, hz2⟩ := info_parts info69
  have hml : 100 < maxLen := by decide
  have l0 : b < w.heap.size := cell_lt (p := ⟨b, 0, none⟩) (hc 0 hpos)
  clear hnn
  go_enter Tryz.func40, Tryz.ntmps40
  go_wp2_with fail
  go_loopw [6, 13] (fun v i wr => ∃ j : Nat, j ≤ n ∧ i = .int .i64 j ∧ wr.ownsRow w.heap.size 95 1 v j (fv H hl j) ∧ Keeps [] w wr ∧ ∀ k, k < j → (H (hl.getD k 0)).isSome = true) (fun _ i _ => n - (intOf i).toNat)
  case atStart => exact ⟨0, by omega, rfl, World.ownsRow_nil _ _ _ _, Keeps.refl _ _, fun k hk => by omega⟩
  case round =>
    obtain ⟨j, hj, rfl, hown, hk, hall⟩ := hrel
    by_cases hlt : j < n
    · have hst := h.keeps hk
      have d3 := hst.c3
      have hcj := hk.cell (hc j hlt) (by simp)
      have hbl : b < wr.heap.size := cell_lt (p := ⟨b, j, none⟩) hcj
      have hj0 : (0 : Int) ≤ (j : Int) := by omega
      have hj1 : (j : Int) < (n : Int) := by omega
      have hrun := (hst.held.look lawInt Tryz.underlying52 (zeroFn _) (keyInt (hfit j hlt))).1
      have hbase := hk.size
      cases hH : H (hl.getD j 0) with
      | none =>
        have hG : heldG H (.int .i64 (hl.getD j 0)) = none := by simp only [heldG, hH]; rfl
        rw [hG] at hrun
        simp only [Option.getD_none, Option.isSome_none] at hrun
        obtain ⟨x, hx⟩ : ∃ x, x = hl.getD j 0 := ⟨_, rfl⟩
        rw [← hx] at hrun hcj
        have HH : Hid (H (hl.getD j 0) = none) := hH
        clear hG hH hx
        go_wp2_with fail
        go_ret2
        exact Or.inl ⟨⟨j, hlt, HH.out⟩, rfl, hk⟩
      | some f =>
        have hG : heldG H (.int .i64 (hl.getD j 0)) = some (.int .i64 f) := by simp only [heldG, hH]; rfl
        rw [hG] at hrun
        simp only [Option.getD_some, Option.isSome_some] at hrun
        obtain ⟨x, hx⟩ : ∃ x, x = hl.getD j 0 := ⟨_, rfl⟩
        rw [← hx] at hrun hcj
        have HH : Hid (H (hl.getD j 0) = some f) := hH
        clear hG hH hx
        go_wp2_with (first
          | (at_builtin; refine wpList_append_own_at _ rfl _ _ 67 rfl w.heap.size 95 i0 (.int .i64 0) 1 8 Tryz.underlying67 hi hz0 hz1 hz2 rfl (by decide) _ j (fv H hl j) rfl (hown.alloc _) ⟨wr.heap.size, 0, none⟩ 1 1 [.int .i64 f] rfl rfl (cell_one_new _ _ _) (ints_oneCell .i64 [f]) (by omega) (by omega) (by simp; omega) ?_; intro v' w1 hown' hgrow hnil hloc)
          | fail)
        go_roundw
        case rel =>
          refine ⟨j + 1, by omega, by go_num, ?_, ?_, ?_⟩
          · rw [fv_succ H hl j (by rw [← HL.out]; exact hlt) HH.out]; exact hown'
          · refine (hk.alloc _).grown hgrow (fun k hk' => Or.inr ?_)
            exact (hown.lt k hk').1
          · intro k hk'
            by_cases e : k = j
            · subst e; rw [HH.out]; rfl
            · exact hall k (by omega)
        case measure => simp [intOf]; omega
    · have e : j = n := by omega
      subst e
      obtain ⟨g, cap, hv, hbg, hlg⟩ : ∃ g cap, u6 = .slice (some ⟨g, 0, none⟩) j cap ∧ w.heap.size ≤ g ∧ g < wr.heap.size := by
        rcases hown.2 with ⟨_, h0⟩ | ⟨g, cap, cur, hv, hb', hg', _⟩
        · omega
        · exact ⟨g, cap, hv, hb', (Array.getElem?_eq_some_iff.1 hg').1⟩
      rw [hv] at hown ⊢
      go_wp2_with fail
      go_ret2
      refine Or.inr ⟨hall, g, cap, rfl, hbg, fun k hk' => ?_, hk⟩
      rw [hown.cellAt k (by omega)]
      have hkl : k < hl.length := by rw [← HL.out]; exact hk'
      have hjl : j ≤ hl.length := by rw [← HL.out]; exact Nat.le_refl _
      simp [fv, hk', hkl]

end Go.Proofs.YtmgjegokkbghlaaGreat
