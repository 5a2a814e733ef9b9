/- pick, bit, combined, assignment. -/
import Derived.Test.YtmgjegokkbghlaaAsks
namespace Go.Proofs.Ytmgjegokkbghlaa
open Go.RowKit Go.Maps Bdd

set_option maxRecDepth 100000 in
set_option maxHeartbeats 400000 in
theorem pick_any {w : World} {c n : Int} (hc : Fits c) (hn : 0 < n) (hn' : n ≤ 9223372036854775807) :
    Calls Try.prog 11 #[.int .i64 c, .int .i64 n] w fun e w' => (∃ r, e = .returned (.int .i64 r) ∧ 0 ≤ r ∧ r < n) ∧ w = w' := by
  unfold Fits at hc
  by_cases h : c < 0
  · have hz : (n == 0) = false := by simp; omega
    go_enter Try.func11, Try.ntmps11
    go_wp2_with fail
    go_ret
    have e : -(c + 1).tmod n = (-(c + 1)) % n := by rw [← Int.neg_tmod, Int.tmod_eq_emod_of_nonneg (by omega)]
    have h1 := Int.emod_nonneg (-(c + 1)) (b := n) (by omega)
    have h2 := Int.emod_lt_of_pos (-(c + 1)) hn
    exact ⟨⟨_, rfl, by omega, by omega⟩, rfl⟩
  · have hz : (n == 0) = false := by simp; omega
    go_enter Try.func11, Try.ntmps11
    go_wp2_with fail
    go_ret
    exact ⟨⟨_, rfl, Int.emod_nonneg c (by omega), Int.emod_lt_of_pos c hn⟩, rfl⟩

/-- the digit of a number at a place of four -/
def dig (i : Nat) (v : Int) : Bool := (i / 2 ^ (3 - v).toNat) % 2 == 1

set_option maxRecDepth 100000 in
set_option maxHeartbeats 400000 in
theorem bit_any {w : World} {i v : Nat} (hi : i < 16) (hv : v < 4) :
    Calls Try.prog 21 #[.int .i64 i, .int .i64 v] w fun e w' => e = .returned (.bool (dig i v)) ∧ w = w' := by
  go_enter Try.func21, Try.ntmps21
  go_wp2_with fail
  go_ret
  refine ⟨?_, rfl⟩
  have : ∀ i : Nat, i < 16 → ∀ v : Nat, v < 4 → (bits BinOp.and IntKind.i64 ((i : Int) / 2 ^ (3 - v)) 1 == 1) = dig i v := by decide
  exact congrArg (fun b => Ending.returned (.bool b)) (this i hi v hv)

set_option maxRecDepth 100000 in
set_option maxHeartbeats 400000 in
theorem combined_any {w : World} {what : Int} (h0 : 0 ≤ what) (h1 : what < 4) (a b : Bool) :
    Calls Try.prog 34 #[.int .i64 what, .bool a, .bool b] w fun e w' => e = .returned (.bool (app what a b)) ∧ w = w' := by
  have hw : what = 0 ∨ what = 1 ∨ what = 2 ∨ what = 3 := by omega
  rcases hw with rfl | rfl | rfl | rfl <;> cases a <;> cases b
  all_goals
    go_enter Try.func34, Try.ntmps34
    go_wp2_with fail
    go_ret
    exact ⟨rfl, rfl⟩


/-- the assignment of a number -/
def asg (i : Nat) : Int → Bool := fun v => dig i v
def asgV (i j : Nat) : List Value := (List.range j).map fun v : Nat => .bool (dig i v)
theorem asgV_succ (i j : Nat) : asgV i (j + 1) = asgV i j ++ [.bool (dig i j)] := by simp [asgV, List.range_succ]

set_option maxRecDepth 100000 in
set_option maxHeartbeats 400000 in
theorem assignment_any {w : World} {i : Nat} (hi : i < 16) :
    Calls Try.prog 23 #[.int .i64 i] w fun e w' => ∃ g cap, e = .returned (.slice (some ⟨g, 0, none⟩) 4 cap) ∧ Truths w' g 0 4 (asg i) ∧ w.heap.size ≤ g ∧ Keeps [] w w' := by
  obtain ⟨i0, hi0, hz0, hz1, hz2⟩ := info_parts info4
  have hml : 100 < maxLen := by decide
  go_enter Try.func23, Try.ntmps23
  go_wp2_with fail
  go_loopw [3, 4] (fun v x wr => ∃ j : Nat, j ≤ 4 ∧ x = .int .i64 j ∧ wr.ownsRow w.heap.size 4 1 v j (asgV i j) ∧ Keeps [] w wr) (fun _ x _ => 4 - (intOf x).toNat)
  case atStart => exact ⟨0, by omega, rfl, World.ownsRow_nil _ _ _ _, Keeps.refl _ _⟩
  case round =>
    obtain ⟨j, hj, rfl, hown, hk⟩ := hrel
    have hbase := hk.size
    by_cases hlt : j < 4
    · have hj1 : (j : Int) < 4 := by omega
      go_wp2_with (first
        | (go_at_call 21; refine (bit_any hi hlt).mono ?_; rintro e w1 ⟨rfl, rfl⟩)
        | (at_builtin; refine wpList_append_own_at _ rfl _ _ 47 rfl w.heap.size 4 i0 (.bool false) 1 1 Try.underlying47 hi0 hz0 hz1 hz2 rfl (by decide) _ j (asgV i j) rfl (hown.alloc _) ⟨wr.heap.size, 0, none⟩ 1 1 [.bool (dig i j)] rfl rfl (cell_one_new _ _ _) (by simp [Value.oneCell']) (by omega) (by omega) (by simp; omega) ?_; intro v' w1 hown' hgrow hnil hloc)
        | fail)
      go_roundw
      case rel =>
        refine ⟨j + 1, by omega, by go_num, ?_, ?_⟩
        · rw [asgV_succ]; exact hown'
        · exact (hk.alloc _).grown hgrow (fun k hk' => Or.inr (hown.lt k hk').1)
      case measure => simp [intOf]; omega
    · have e : j = 4 := by omega
      subst e
      obtain ⟨g, cap, hv, hbg, hlg⟩ : ∃ g cap, u3 = .slice (some ⟨g, 0, none⟩) 4 cap ∧ w.heap.size ≤ g ∧ g < wr.heap.size := by
        rcases hown.2 with ⟨_, h0⟩ | ⟨g, cap, cur, hv, hb', hg', _⟩
        · omega
        · exact ⟨g, cap, hv, hb', (Array.getElem?_eq_some_iff.1 hg').1⟩
      rw [hv] at hown ⊢
      go_wp2_with fail
      go_ret
      refine ⟨g, cap, rfl, fun k hk' => ?_, hbg, hk⟩
      rw [Nat.zero_add, hown.cellAt k (by omega)]
      simp [asgV, hk', asg]

end Go.Proofs.Ytmgjegokkbghlaa
