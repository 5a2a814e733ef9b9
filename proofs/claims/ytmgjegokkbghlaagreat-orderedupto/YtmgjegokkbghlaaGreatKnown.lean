/- The walks of known, findWith. -/
import Derived.Test.YtmgjegokkbghlaaGreatFind
namespace Go.Proofs.YtmgjegokkbghlaaGreat
open Go.RowKit Go.Maps Bdd

/-- a list of ints in memory -/
def IntsIn (w : World) (b o : Nat) (hl : List Int) : Prop := ∀ j, j < hl.length → w.cell? ⟨b, o + j, none⟩ = some (.int .i64 (hl.getD j 0))
theorem IntsIn.keeps {w w' : World} {b o : Nat} {hl : List Int} {S : List Nat} (h : IntsIn w b o hl) (hk : Keeps S w w') (hb : b ∉ S) : IntsIn w' b o hl := fun j hj => hk.cell (h j hj) hb

/-- are all of these variables? -/
def AllV (L : Nat) (hl : List Int) (n : Nat) : Prop := ∀ k, k < n → 0 ≤ hl.getD k 0 ∧ hl.getD k 0 < (L : Int)

set_option maxRecDepth 100000 in
set_option maxHeartbeats 1000000 in
theorem known_any {w : World} {s hb t bn bm sz nh L b o cap : Nat} {od : Ord L} {lim given : Int} {N : Tab} {last : Int} {H : Int → Option Int} (h : StAt w s hb t bn bm sz nh od lim given N last H) (hl : List Int) (hn : hl.length < 4611686018427387904) (hc : IntsIn w b o hl) :
    Calls Tryz.prog 67 #[.pointer (some ⟨s, 0, none⟩), .slice (some ⟨b, o, none⟩) hl.length cap] w fun e w' =>
      ((AllV L hl hl.length ∧ e = .returned (.int .i64 0)) ∨ (¬ AllV L hl hl.length ∧ e = .returned (.int .i64 3))) ∧ Keeps [] w w' := by
  obtain ⟨n, hnn⟩ : ∃ n, n = hl.length := ⟨_, rfl⟩
  unfold IntsIn at hc
  rw [← hnn] at hn hc ⊢
  clear hnn
  go_enter Tryz.func67, Tryz.ntmps67
  go_wp2_with fail
  go_loopw [9] (fun i wr => ∃ j : Nat, j ≤ n ∧ i = .int .i64 j ∧ AllV L hl j ∧ Keeps [] w wr) (fun i _ => n - (intOf i).toNat)
  case atStart => exact ⟨0, by omega, rfl, fun k hk => by omega, Keeps.refl _ _⟩
  case round =>
    obtain ⟨j, hj, rfl, hall, hk⟩ := hrel
    by_cases hlt : j < n
    · have hst := h.keeps hk
      have c2 := hst.c2
      have hcj := hk.cell (hc j hlt) (by simp)
      have hj0 : (0 : Int) ≤ (j : Int) := by omega
      have hj1 : (j : Int) < (n : Int) := by omega
      obtain ⟨x, hx⟩ : ∃ x, x = hl.getD j 0 := ⟨_, rfl⟩
      rw [← hx] at hcj
      by_cases q0 : x < 0
      · have HX : Hid (x = hl.getD j 0) := hx
        clear hx
        go_wp2_with fail
        go_ret
        exact ⟨Or.inr ⟨fun ha => by have := (ha j hlt).1; have := HX.out; omega, rfl⟩, hk⟩
      · have q0' : ¬ x < 0 := q0
        by_cases q1 : (L : Int) ≤ x
        · have HX : Hid (x = hl.getD j 0) := hx
          clear hx
          go_wp2_with fail
          go_ret
          exact ⟨Or.inr ⟨fun ha => by have := (ha j hlt).2; have := HX.out; omega, rfl⟩, hk⟩
        · have q2 : x < (L : Int) := by omega
          have HX : Hid (x = hl.getD j 0) := hx
          clear hx
          go_wp2_with fail
          go_roundw
          case rel =>
            refine ⟨j + 1, by omega, by go_num, fun k hk' => ?_, hk⟩
            by_cases e : k = j
            · subst e; have := HX.out; omega
            · exact hall k (by omega)
          case measure => simp [intOf]; omega
    · have e : j = n := by omega
      subst e
      go_wp2_with fail
      go_ret
      exact ⟨Or.inl ⟨hall, rfl⟩, hk⟩

end Go.Proofs.YtmgjegokkbghlaaGreat
