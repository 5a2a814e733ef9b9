/- What the law holds: lists that were lent or came out; marked. -/
import Derived.Test.YtmgjegokkbghlaaGreatLawA
namespace Go.Proofs.YtmgjegokkbghlaaGreat
open Go.RowKit Go.Maps Bdd
set_option linter.unusedVariables false
attribute [local go_sem ↓] Go.wp_at_zero Go.wp_at_succ

/-- a list whose cells are all of one value -/
def AllC (w : World) (own : Own) (tg : Tag) (u x : Value) : Prop := ∃ a n cap, u = .slice a n cap ∧ n ≤ 140737488355328 ∧ (n = 0 ∨ ∃ g, a = some ⟨g, 0, none⟩ ∧ own g = tg ∧ ∀ i, i < n → w.cell? ⟨g, i, none⟩ = some x)
/-- a list of such lists -/
def ListC (w : World) (own : Own) (tg : Tag) (v x : Value) : Prop := ∃ a n cap, v = .slice a n cap ∧ n ≤ 9 ∧ (n = 0 ∨ ∃ g, a = some ⟨g, 0, none⟩ ∧ own g = tg ∧ ∀ i, i < n → ∃ u, w.cell? ⟨g, i, none⟩ = some u ∧ AllC w own tg u x)
/-- A HOLD: every place reads as it was written -/
def HoldOk (w : World) (own : Own) (tg : Tag) (h : Nat) : Prop := own h = tg ∧ ∃ (iv tv : Value) (m : Int) (b : Bool), w.cell? ⟨h, 0, none⟩ = some iv ∧ w.cell? ⟨h, 1, none⟩ = some tv ∧ w.cell? ⟨h, 2, none⟩ = some (.slice none 0 0) ∧ w.cell? ⟨h, 3, none⟩ = some (.int .i64 m) ∧ w.cell? ⟨h, 4, none⟩ = some (.bool b) ∧ ListC w own tg iv (.int .i64 m) ∧ ListC w own tg tv (.bool b)

section
variable {w w' : World} {own own' : Own} {tg : Tag} {T : Tag → Prop}
theorem AllC.frame {u x : Value} (h : AllC w own tg u x) (ho : Onlys own T w w') (hne : ¬ T tg) (hown : ∀ b, b < w.heap.size → own b = tg → own' b = tg) : AllC w' own' tg u x := by
  obtain ⟨a, n, cap, e, hn, h⟩ := h
  refine ⟨a, n, cap, e, hn, ?_⟩
  rcases h with h | ⟨g, ea, hg, hc⟩
  · exact Or.inl h
  · by_cases h0 : n = 0
    · exact Or.inl h0
    · exact Or.inr ⟨g, ea, hown g (cell_lt (hc 0 (by omega))) hg, fun i hi => ho.cell (hc i hi) (by show ¬ T (own g); rw [hg]; exact hne)⟩
theorem ListC.frame {v x : Value} (h : ListC w own tg v x) (ho : Onlys own T w w') (hne : ¬ T tg) (hown : ∀ b, b < w.heap.size → own b = tg → own' b = tg) : ListC w' own' tg v x := by
  obtain ⟨a, n, cap, e, hn, h⟩ := h
  refine ⟨a, n, cap, e, hn, ?_⟩
  rcases h with h | ⟨g, ea, hg, hc⟩
  · exact Or.inl h
  · by_cases h0 : n = 0
    · exact Or.inl h0
    · obtain ⟨u0, hu0, _⟩ := hc 0 (by omega)
      refine Or.inr ⟨g, ea, hown g (cell_lt hu0) hg, fun i hi => ?_⟩
      obtain ⟨u, hu, hall⟩ := hc i hi
      exact ⟨u, ho.cell hu (by show ¬ T (own g); rw [hg]; exact hne), hall.frame ho hne hown⟩
theorem HoldOk.frame {h : Nat} (hh : HoldOk w own tg h) (ho : Onlys own T w w') (hne : ¬ T tg) (hown : ∀ b, b < w.heap.size → own b = tg → own' b = tg) : HoldOk w' own' tg h := by
  obtain ⟨h0, iv, tv, m, b, c0, c1, c2, c3, c4, hi, ht⟩ := hh
  have hnt : ¬ T (own h) := by rw [h0]; exact hne
  exact ⟨hown h (cell_lt c0) h0, iv, tv, m, b, ho.cell c0 hnt, ho.cell c1 hnt, ho.cell c2 hnt, ho.cell c3 hnt, ho.cell c4 hnt, hi.frame ho hne hown, ht.frame ho hne hown⟩
end

set_option maxRecDepth 100000 in
set_option maxHeartbeats 4000000 in
theorem marked_any {w : World} {own : Own} {tg : Tag} {h : Nat} (H : HoldOk w own tg h) : Calls Tryz.prog 20 #[.pointer (some ⟨h, 0, none⟩)] w fun e w' => e = .returned (.bool true) ∧ Keeps [] w w' := by
  obtain ⟨_, iv, tv, m, b, c0, c1, c2, c3, c4, hi, ht⟩ := H
  obtain ⟨ia, il, ic, rfl, hil, hi⟩ := hi
  obtain ⟨ta, tl, tc, rfl, htl, ht⟩ := ht
  have hil' : (il : Int) ≤ 9 := by omega
  have htl' : (tl : Int) ≤ 9 := by omega
  have HI : Hid (il = 0 ∨ ∃ g, ia = some ⟨g, 0, none⟩ ∧ own g = tg ∧ ∀ i, i < il → ∃ u, w.cell? ⟨g, i, none⟩ = some u ∧ AllC w own tg u (.int .i64 m)) := hi
  have HT : Hid (tl = 0 ∨ ∃ g, ta = some ⟨g, 0, none⟩ ∧ own g = tg ∧ ∀ i, i < tl → ∃ u, w.cell? ⟨g, i, none⟩ = some u ∧ AllC w own tg u (.bool b)) := ht
  clear hi ht
  go_enter Tryz.func20, Tryz.ntmps20
  go_wp2_with fail
  go_loopw [3] (fun x wr => ∃ j : Nat, j ≤ il ∧ x = .int .i64 j ∧ Keeps [] w wr) (fun x _ => il - (intOf x).toNat)
  case atStart => exact ⟨0, by omega, rfl, Keeps.refl _ _⟩
  case round =>
    obtain ⟨j, hj, rfl, hk⟩ := hrel
    have d0 := hk.cell c0 (by simp)
    by_cases hlt : j < il
    · have hj0 : (0 : Int) ≤ (j : Int) := by omega
      have hj1 : (j : Int) < (il : Int) := by omega
      obtain ⟨g, ea, _, hcells⟩ : ∃ g, ia = some ⟨g, 0, none⟩ ∧ own g = tg ∧ ∀ i, i < il → ∃ u, w.cell? ⟨g, i, none⟩ = some u ∧ AllC w own tg u (.int .i64 m) := by
        rcases HI.out with h | h
        · omega
        · exact h
      subst ea
      obtain ⟨u, hu, ua, un, uc, rfl, hun, hall⟩ := hcells j hlt
      have HALL : Hid (un = 0 ∨ ∃ g, ua = some ⟨g, 0, none⟩ ∧ own g = tg ∧ ∀ i, i < un → w.cell? ⟨g, i, none⟩ = some (.int .i64 m)) := hall
      have hun' : (un : Int) ≤ 140737488355328 := by omega
      clear hall hcells
      go_wp2_with fail
      go_loopw [4] (fun y wq => ∃ k : Nat, k ≤ un ∧ y = .int .i64 k ∧ Keeps [] w wq) (fun y _ => un - (intOf y).toNat)
      case atStart => exact ⟨0, by omega, rfl, hk⟩
      case round =>
        obtain ⟨k, hkn, rfl, hq⟩ := hrel
        have q0 := hq.cell c0 (by simp)
        have q1 := hq.cell hu (by simp)
        by_cases hlk : k < un
        · have hk0 : (0 : Int) ≤ (k : Int) := by omega
          have hk1 : (k : Int) < (un : Int) := by omega
          obtain ⟨g2, ea2, _, hc2⟩ : ∃ g, ua = some ⟨g, 0, none⟩ ∧ own g = tg ∧ ∀ i, i < un → w.cell? ⟨g, i, none⟩ = some (.int .i64 m) := by
            rcases HALL.out with h | h
            · omega
            · exact h
          subst ea2
          have q2 := hq.cell (hc2 k hlk) (by simp)
          have q3 := hq.cell c3 (by simp)
          clear hc2
          go_wp2_with fail
          go_quiet (fail)
          go_wp2_with fail
          go_roundw
          case rel => exact ⟨k + 1, by omega, by go_num, hq.drewN _⟩
          case measure => simp [intOf]; omega
        · have hk1 : (un : Int) ≤ (k : Int) := by omega
          go_wp2_with fail
          go_roundw
          case rel => exact ⟨j + 1, by omega, by go_num, hq⟩
          case measure => simp [intOf]; omega
    · have hj1 : (il : Int) ≤ (j : Int) := by omega
      have d2 := hk.cell c2 (by simp)
      go_wp2_with fail
      go_loopw [5] (fun x wq => x = .int .i64 0 ∧ Keeps [] w wq) (fun _ _ => 0)
      case atStart => exact ⟨rfl, hk⟩
      case round =>
        obtain ⟨rfl, hk2⟩ := hrel
        have e2 := hk2.cell c2 (by simp)
        go_wp2_with fail
        go_loopw [7] (fun x wr => ∃ j : Nat, j ≤ tl ∧ x = .int .i64 j ∧ Keeps [] w wr) (fun x _ => tl - (intOf x).toNat)
        case atStart => exact ⟨0, by omega, rfl, hk2⟩
        case round =>
          obtain ⟨j, hj, rfl, hk⟩ := hrel
          have d1 := hk.cell c1 (by simp)
          by_cases hlt : j < tl
          · have hj0 : (0 : Int) ≤ (j : Int) := by omega
            have hj1 : (j : Int) < (tl : Int) := by omega
            obtain ⟨g, ea, _, hcells⟩ : ∃ g, ta = some ⟨g, 0, none⟩ ∧ own g = tg ∧ ∀ i, i < tl → ∃ u, w.cell? ⟨g, i, none⟩ = some u ∧ AllC w own tg u (.bool b) := by
              rcases HT.out with h | h
              · omega
              · exact h
            subst ea
            obtain ⟨u, hu, ua, un, uc, rfl, hun, hall⟩ := hcells j hlt
            have HALL : Hid (un = 0 ∨ ∃ g, ua = some ⟨g, 0, none⟩ ∧ own g = tg ∧ ∀ i, i < un → w.cell? ⟨g, i, none⟩ = some (.bool b)) := hall
            have hun' : (un : Int) ≤ 140737488355328 := by omega
            clear hall hcells
            go_wp2_with fail
            go_loopw [8] (fun y wq => ∃ k : Nat, k ≤ un ∧ y = .int .i64 k ∧ Keeps [] w wq) (fun y _ => un - (intOf y).toNat)
            case atStart => exact ⟨0, by omega, rfl, hk⟩
            case round =>
              obtain ⟨k, hkn, rfl, hq⟩ := hrel
              have q0 := hq.cell c1 (by simp)
              have q1 := hq.cell hu (by simp)
              by_cases hlk : k < un
              · have hk0 : (0 : Int) ≤ (k : Int) := by omega
                have hk1 : (k : Int) < (un : Int) := by omega
                obtain ⟨g2, ea2, _, hc2⟩ : ∃ g, ua = some ⟨g, 0, none⟩ ∧ own g = tg ∧ ∀ i, i < un → w.cell? ⟨g, i, none⟩ = some (.bool b) := by
                  rcases HALL.out with h | h
                  · omega
                  · exact h
                subst ea2
                have q2 := hq.cell (hc2 k hlk) (by simp)
                have q3 := hq.cell c4 (by simp)
                clear hc2
                go_wp2_with fail
                go_quiet (fail)
                go_wp2_with fail
                go_roundw
                case rel => exact ⟨k + 1, by omega, by go_num, hq.drewN _⟩
                case measure => simp [intOf]; omega
              · have hk1 : (un : Int) ≤ (k : Int) := by omega
                go_wp2_with fail
                go_roundw
                case rel => exact ⟨j + 1, by omega, by go_num, hq⟩
                case measure => simp [intOf]; omega
          · have hj1 : (tl : Int) ≤ (j : Int) := by omega
            go_wp2_with fail
            go_ret
            exact ⟨rfl, hk⟩

end Go.Proofs.YtmgjegokkbghlaaGreat
