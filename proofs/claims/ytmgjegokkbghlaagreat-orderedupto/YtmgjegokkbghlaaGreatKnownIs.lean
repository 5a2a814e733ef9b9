/- The walk of known, once more: nothing is changed. -/
import Derived.Test.YtmgjegokkbghlaaGreatKnown
namespace Go.Proofs.YtmgjegokkbghlaaGreat
open Go.RowKit Go.Maps Bdd

open Classical in
/-- what known answers -/
noncomputable def knownE (L : Nat) (hl : List Int) : Int := if AllV L hl hl.length then 0 else 3
theorem knownE_ok {L : Nat} {hl : List Int} (h : AllV L hl hl.length) : knownE L hl = 0 := by unfold knownE; rw [if_pos h]
theorem knownE_bad {L : Nat} {hl : List Int} (h : ¬ AllV L hl hl.length) : knownE L hl = 3 := by unfold knownE; rw [if_neg h]

set_option maxRecDepth 100000 in
set_option maxHeartbeats 1000000 in
theorem known_walk {w : World} {s hb t bn bm sz nh L b o cap : Nat} {od : Ord L} {lim given : Int} {N : Tab} {last : Int} {H : Int → Option Int} (h : StAt w s hb t bn bm sz nh od lim given N last H) (hl : List Int) (hn : hl.length < 4611686018427387904) (hc : IntsIn w b o hl) :
    Calls Tryz.prog 67 #[.pointer (some ⟨s, 0, none⟩), .slice (some ⟨b, o, none⟩) hl.length cap] w fun e w' =>
      ((AllV L hl hl.length ∧ e = .returned (.int .i64 0)) ∨ (¬ AllV L hl hl.length ∧ e = .returned (.int .i64 3))) ∧ w = w' := by
  obtain ⟨n, hnn⟩ : ∃ n, n = hl.length := ⟨_, rfl⟩
  unfold IntsIn at hc
  rw [← hnn] at hn hc ⊢
  have HC : Hid (∀ j, j < n → w.cell? ⟨b, o + j, none⟩ = some (.int .i64 (hl.getD j 0))) := hc
  clear hnn hc
  go_enter Tryz.func67, Tryz.ntmps67
  go_wp2_with fail
  go_loopw [9] (fun i wr => ∃ j : Nat, j ≤ n ∧ i = .int .i64 j ∧ AllV L hl j ∧ w = wr) (fun i _ => n - (intOf i).toNat)
  case atStart => exact ⟨0, by omega, rfl, fun k hk => by omega, rfl⟩
  case round =>
    obtain ⟨j, hj, rfl, hall, rfl⟩ := hrel
    by_cases hlt : j < n
    · have c2 := h.c2
      have hcj := HC.out j hlt
      have hj0 : (0 : Int) ≤ (j : Int) := by omega
      have hj1 : (j : Int) < (n : Int) := by omega
      obtain ⟨x, hx⟩ : ∃ x, x = hl.getD j 0 := ⟨_, rfl⟩
      rw [← hx] at hcj
      by_cases q0 : x < 0
      · have HX : Hid (x = hl.getD j 0) := hx
        clear hx
        go_wp2_with fail
        go_ret
        exact ⟨Or.inr ⟨fun ha => by have := (ha j hlt).1; have := HX.out; omega, rfl⟩, rfl⟩
      · have q0' : ¬ x < 0 := q0
        by_cases q1 : (L : Int) ≤ x
        · have HX : Hid (x = hl.getD j 0) := hx
          clear hx
          go_wp2_with fail
          go_ret
          exact ⟨Or.inr ⟨fun ha => by have := (ha j hlt).2; have := HX.out; omega, rfl⟩, rfl⟩
        · have q2 : x < (L : Int) := by omega
          have HX : Hid (x = hl.getD j 0) := hx
          clear hx
          go_wp2_with fail
          go_roundw
          case rel =>
            refine ⟨j + 1, by omega, by go_num, fun k hk' => ?_, by first | rfl | trivial⟩
            by_cases e : k = j
            · subst e; have := HX.out; omega
            · exact hall k (by omega)
          case measure => simp [intOf]; omega
    · have e : j = n := by omega
      subst e
      go_wp2_with fail
      go_ret
      exact ⟨Or.inl ⟨hall, rfl⟩, rfl⟩

theorem known_is {w : World} {s hb t bn bm sz nh L b o cap : Nat} {od : Ord L} {lim given : Int} {N : Tab} {last : Int} {H : Int → Option Int} (h : StAt w s hb t bn bm sz nh od lim given N last H) (hl : List Int) (hn : hl.length < 4611686018427387904) (hc : IntsIn w b o hl) :
    Calls Tryz.prog 67 #[.pointer (some ⟨s, 0, none⟩), .slice (some ⟨b, o, none⟩) hl.length cap] w fun e w' => e = .returned (.int .i64 (knownE L hl)) ∧ w = w' := by
  refine (known_walk h hl hn hc).mono ?_
  rintro e w' ⟨⟨h1, rfl⟩ | ⟨h1, rfl⟩, rfl⟩
  · rw [knownE_ok h1]; exact ⟨rfl, rfl⟩
  · rw [knownE_bad h1]; exact ⟨rfl, rfl⟩

end Go.Proofs.YtmgjegokkbghlaaGreat
