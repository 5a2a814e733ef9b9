/- Index and Contains of a list of numbers; the place of a variable. -/
import Derived.Test.YtmgjegokkbghlaaGreatHold
namespace Go.Proofs.YtmgjegokkbghlaaGreat
open Go.RowKit Go.Maps Bdd
attribute [local go_sem ↓] Go.wp_at_zero Go.wp_at_succ

/-- a list of numbers in memory -/
def NumsIn (w : World) (b o n : Nat) (c : Int → Int) : Prop := ∀ k : Nat, k < n → w.cell? ⟨b, o + k, none⟩ = some (.int .i64 (c (k : Int)))
theorem NumsIn.keeps {w w' : World} {b o n : Nat} {c : Int → Int} {S : List Nat} (h : NumsIn w b o n c) (hk : Keeps S w w') (hS : b ∉ S) : NumsIn w' b o n c := fun k hkn => hk.cell (h k hkn) hS
theorem OrdIn.nums {n : Nat} {w : World} {o : Ord n} (h : OrdIn w o) : NumsIn w o.blk 0 n o.at_ := fun k hk => by rw [Nat.zero_add]; exact (h k hk).1

/-- the first place of v, or -1 -/
def IdxIs (n : Nat) (c : Int → Int) (v r : Int) : Prop := (r = -1 ∧ ∀ k : Nat, k < n → c (k : Int) ≠ v) ∨ (∃ k : Nat, k < n ∧ r = (k : Int) ∧ c (k : Int) = v)

set_option maxRecDepth 100000 in
set_option maxHeartbeats 1000000 in
theorem index_any {w : World} {b o n cap : Nat} {c : Int → Int} (h : NumsIn w b o n c) (hn : n < 4611686018427387904) (v : Int) :
    Calls Tryz.prog 107 #[.slice (some ⟨b, o, none⟩) n cap, .int .i64 v] w fun e w' => ∃ r, IdxIs n c v r ∧ e = .returned (.int .i64 r) ∧ Keeps [] w w' := by
  go_enter Tryz.func107, Tryz.ntmps107
  go_wp2_with fail
  go_loopw [8] (fun i wr => ∃ j : Nat, j ≤ n ∧ i = .int .i64 j ∧ (∀ k : Nat, k < j → c (k : Int) ≠ v) ∧ Keeps [] w wr) (fun i _ => n - (intOf i).toNat)
  case atStart => exact ⟨0, by omega, rfl, fun k hk => by omega, Keeps.refl _ _⟩
  case round =>
    obtain ⟨j, hj, rfl, hall, hk⟩ := hrel
    by_cases hlt : j < n
    · have hcj := hk.cell (h j hlt) (by simp)
      have hj0 : (0 : Int) ≤ (j : Int) := by omega
      have hj1 : (j : Int) < (n : Int) := by omega
      obtain ⟨x, hx⟩ : ∃ x, x = c (j : Int) := ⟨_, rfl⟩
      rw [← hx] at hcj
      have HX : Hid (x = c (j : Int)) := hx
      clear hx
      by_cases q : v = x
      · subst q
        go_wp2_with fail
        go_ret
        exact ⟨_, Or.inr ⟨j, hlt, rfl, HX.out.symm⟩, rfl, hk⟩
      · have q' : (v == x) = false := by simp [q]
        go_wp2_with fail
        go_roundw
        case rel =>
          refine ⟨j + 1, by omega, by go_num, fun k hk' => ?_, hk⟩
          by_cases e : k = j
          · subst e; rw [← HX.out]; exact fun e => q e.symm
          · exact hall k (by omega)
        case measure => simp [intOf]; omega
    · have e : j = n := by omega
      subst e
      go_wp2_with fail
      go_ret
      exact ⟨_, Or.inl ⟨rfl, hall⟩, rfl, hk⟩

set_option maxRecDepth 100000 in
set_option maxHeartbeats 1000000 in
theorem contains_any {w : World} {b o n cap : Nat} {c : Int → Int} (h : NumsIn w b o n c) (hn : n < 4611686018427387904) (v : Int) :
    Calls Tryz.prog 113 #[.slice (some ⟨b, o, none⟩) n cap, .int .i64 v] w fun e w' => ∃ r : Bool, (r = true ↔ ∃ k : Nat, k < n ∧ c (k : Int) = v) ∧ e = .returned (.bool r) ∧ Keeps [] w w' := by
  go_enter Tryz.func113, Tryz.ntmps113
  go_wp2_with fail
  refine (index_any h hn v).mono ?_
  rintro e w1 ⟨r, hr, rfl, hk⟩
  go_wp2_with fail
  go_ret
  refine ⟨_, ?_, rfl, hk⟩
  rcases hr with ⟨rfl, hno⟩ | ⟨k, hk, rfl, hc⟩
  · simp
    exact fun k hk => hno k hk
  · simp
    exact ⟨k, hk, hc⟩

set_option maxRecDepth 100000 in
set_option maxHeartbeats 1000000 in
theorem place_any {w : World} {s hb t bn bm sz nh L : Nat} {od : Ord L} {lim given : Int} {N : Tab} {last : Int} {H : Int → Option Int} (h : StAt w s hb t bn bm sz nh od lim given N last H) {i : Int} (h0 : 0 ≤ i) (h1 : i < (L : Int)) :
    Calls Tryz.prog 70 #[.pointer (some ⟨s, 0, none⟩), .int .i64 i] w fun e w' => e = .returned (.int .i64 (od.lv i)) ∧ Keeps [] w w' := by
  have c2 := h.c2
  have hL8 : L ≤ 8 := by have := h.tab.wf.tops; omega
  have hnums := h.ord.nums
  have HI : Hid (∀ r, IdxIs L od.at_ i r → r = od.lv i) := by
    intro r hr
    rcases hr with ⟨_, hno⟩ | ⟨k, hk, rfl, hc⟩
    · obtain ⟨a1, a2, a3⟩ := od.r2 i h0 h1
      obtain ⟨k, hk⟩ := Int.eq_ofNat_of_zero_le a1
      exact absurd (by rw [hk] at a3; exact a3) (hno k (by omega))
    · have := (od.r1 k (by omega) (by omega)).2.2
      rw [hc] at this
      exact this.symm
  go_enter Tryz.func70, Tryz.ntmps70
  go_wp2_with fail
  refine (index_any hnums (by omega) i).mono ?_
  rintro e w1 ⟨r, hr, rfl, hk⟩
  have hre := HI.out r hr
  subst hre
  go_wp2_with fail
  go_ret
  exact ⟨rfl, hk⟩

end Go.Proofs.YtmgjegokkbghlaaGreat
