/- The document's store: Value. -/
import Derived.Test.YtmgjegokkbghlaaGreatRefMake5
namespace Go.Proofs.YtmgjegokkbghlaaGreat
open Go.RowKit Go.Maps Bdd
attribute [local go_sem ↓] Go.wp_at_zero Go.wp_at_succ

set_option maxRecDepth 100000 in
set_option maxHeartbeats 1000000 in
theorem rvalue_any {w : World} {r n vb vo cap : Nat} {lv : Value} {hs : List (Int × ByteArray)} (hn8 : n ≤ 8) (hc : w.cell? ⟨r, 0, none⟩ = some (.int .i64 (n : Int))) (hh : Held w r lv hs) (hl : hs.length ≤ 60) {f : Int} {F : (Int → Bool) → Bool} (hf : HasT n hs f F) {a : Int → Bool} (ha : Truths w vb vo n a) :
    Calls Tryz.prog 54 #[.pointer (some ⟨r, 0, none⟩), .int .i64 f, .slice (some ⟨vb, vo, none⟩) n cap] w fun e w' => e = .returned (.tuple #[.bool (F (asgN n (numOf a n))), .int .i64 0]) ∧ w = w' := by
  obtain ⟨p, hf1, hf2⟩ := hf
  have hof := rof_some (n := n) (F := F) hh hl hf1 hf2
  obtain ⟨P, hP⟩ : ∃ P : Nat, P = 2 ^ n := ⟨_, rfl⟩
  have HI1 := idx_all hP F
  generalize txt n F = S1 at hof HI1
  have HJ1 : Hid (∀ (i : Nat) (w : World), i < P → (Instr.index 9 (.string S1) (.int .i64 (i : Int))).run Tryz.prog w = .ok (.int .u8 (bI (F (asgN n i)))) w) := HI1
  have HA : Hid (Truths w vb vo n a) := ha
  have hb : ∀ k, k ≤ n → numOf a k < 256 := fun k hk => by
    have h1 := numOf_lt a k
    have h2 : 2 ^ k ≤ 2 ^ 8 := Nat.pow_le_pow_right (by omega) (by omega)
    omega
  have HB : Hid (∀ k, k ≤ n → numOf a k < 256) := hb
  have HL : Hid (numOf a n < P) := by show _ < _; rw [hP]; exact numOf_lt a n
  have hn0 : (0 : Int) ≤ (n : Int) := by omega
  have hn9 : (n : Int) ≤ 8 := by omega
  clear HI1 hf1 hf2 hh ha hb hP
  go_enter Tryz.func54, Tryz.ntmps54
  go_wp2_with fail
  refine hof.mono ?_
  rintro e w0 ⟨rfl, rfl⟩
  go_wp2_with fail
  go_loopw [10, 11] (fun v x wr => ∃ j : Nat, j ≤ n ∧ x = .int .i64 j ∧ v = .int .i64 (numOf a j : Int) ∧ w = wr) (fun _ x _ => n - (intOf x).toNat)
  case atStart => exact ⟨0, by omega, rfl, rfl, rfl⟩
  case round =>
    obtain ⟨j, hj, rfl, rfl, rfl⟩ := hrel
    by_cases hlt : j < n
    · have hj0 : (0 : Int) ≤ (j : Int) := by omega
      have hj1 : (j : Int) < (n : Int) := by omega
      have hcell := HA.out j hlt
      have hvl : vb < w.heap.size := cell_lt (p := ⟨vb, vo + j, none⟩) hcell
      have ht := HB.out j hj
      have HN : Hid (numOf a (j + 1) = 2 * numOf a j + (a (j : Int)).toNat) := rfl
      generalize numOf a j = t at *
      have ht0 : (0 : Int) ≤ (t : Int) := by omega
      have ht1 : (t : Int) < 256 := by omega
      cases hb : a (j : Int) with
      | true =>
        rw [hb] at hcell
        have HN2 : Hid (numOf a (j + 1) = 2 * t + 1) := by show _ = _; rw [HN.out, hb]; rfl
        clear hb HN
        go_wp2_with fail
        go_roundw
        case rel => exact ⟨j + 1, by omega, by go_num, by rw [HN2.out]; go_num, by first | rfl | trivial⟩
        case measure => simp [intOf]; omega
      | false =>
        rw [hb] at hcell
        have HN2 : Hid (numOf a (j + 1) = 2 * t) := by show _ = _; rw [HN.out, hb]; rfl
        clear hb HN
        go_wp2_with fail
        go_roundw
        case rel => exact ⟨j + 1, by omega, by go_num, by rw [HN2.out]; go_num, by first | rfl | trivial⟩
        case measure => simp [intOf]; omega
    · have e : j = n := by omega
      subst e
      have i1 := fun w => HJ1.out (numOf a j) w HL.out
      have ht := HB.out j (by omega)
      obtain ⟨y, hy⟩ : ∃ y, y = F (asgN j (numOf a j)) := ⟨_, rfl⟩
      rw [← hy] at i1
      have HY : Hid (y = F (asgN j (numOf a j))) := hy
      clear hy
      obtain ⟨t, ht'⟩ : ∃ t, t = numOf a j := ⟨_, rfl⟩
      rw [← ht'] at i1 ht ⊢
      clear ht'
      have ht0 : (0 : Int) ≤ (t : Int) := by omega
      cases y with
      | true =>
        simp only [bI] at i1
        go_wp2_with fail
        go_ret2
        exact ⟨by rw [← HY.out]; rfl, by first | rfl | trivial⟩
      | false =>
        simp only [bI] at i1
        go_wp2_with fail
        go_ret2
        exact ⟨by rw [← HY.out]; rfl, by first | rfl | trivial⟩

end Go.Proofs.YtmgjegokkbghlaaGreat
