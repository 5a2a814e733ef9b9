/- The document's store: what the calls refuse, further. -/
import Derived.Test.YtmgjegokkbghlaaGreatRefNo
namespace Go.Proofs.YtmgjegokkbghlaaGreat
open Go.RowKit Go.Maps Bdd
attribute [local go_sem ↓] Go.wp_at_zero Go.wp_at_succ

set_option maxRecDepth 100000 in
set_option maxHeartbeats 1000000 in
theorem rapply_range {w : World} {r : Nat} {lv : Value} {hs : List (Int × ByteArray)} (hh : Held w r lv hs) (hl : hs.length ≤ 60) {what f g : Int} (hf : (IsIn hs f && IsIn hs g) = true) (hw : what < 0 ∨ 3 < what) :
    Calls Tryz.prog 35 #[.pointer (some ⟨r, 0, none⟩), .int .i64 what, .int .i64 f, .int .i64 g] w fun e w' => e = .returned (.tuple #[.int .i64 0, .int .i64 1]) ∧ w = w' := by
  obtain ⟨S1, h1⟩ := rof_in hh hl f
  obtain ⟨S2, h2⟩ := rof_in hh hl g
  clear hh
  obtain ⟨ha, hb⟩ := Bool.and_eq_true_iff.1 hf
  rw [ha] at h1
  rw [hb] at h2
  clear hf ha hb
  by_cases hw0 : what < 0
  · clear hw
    go_enter Tryz.func35, Tryz.ntmps35
    go_wp2_with fail
    refine h1.mono ?_
    rintro e w1 ⟨rfl, rfl⟩
    go_wp2_with fail
    refine h2.mono ?_
    rintro e w1 ⟨rfl, rfl⟩
    go_wp2_with fail
    go_ret2
    exact ⟨rfl, by first | rfl | trivial⟩
  · have hw1 : 3 < what := by omega
    have hw2 : 0 ≤ what := by omega
    clear hw hw0
    go_enter Tryz.func35, Tryz.ntmps35
    go_wp2_with fail
    refine h1.mono ?_
    rintro e w1 ⟨rfl, rfl⟩
    go_wp2_with fail
    refine h2.mono ?_
    rintro e w1 ⟨rfl, rfl⟩
    go_wp2_with fail
    go_ret2
    exact ⟨rfl, by first | rfl | trivial⟩

set_option maxRecDepth 100000 in
set_option maxHeartbeats 1000000 in
theorem rvalue_range {w : World} {r n L cap : Nat} {p : Option Addr} {lv : Value} {hs : List (Int × ByteArray)} (hc : w.cell? ⟨r, 0, none⟩ = some (.int .i64 (n : Int))) (hh : Held w r lv hs) (hl : hs.length ≤ 60) {f : Int} (hf : IsIn hs f = true) (hL : L ≠ n) :
    Calls Tryz.prog 54 #[.pointer (some ⟨r, 0, none⟩), .int .i64 f, .slice p L cap] w fun e w' => e = .returned (.tuple #[.bool false, .int .i64 1]) ∧ w = w' := by
  obtain ⟨S, hof⟩ := rof_in hh hl f
  rw [hf] at hof
  clear hh hf
  have hne : ((L : Int) != (n : Int)) = true := by simp; omega
  have hne2 : ((L : Int) == (n : Int)) = false := by simp; omega
  have hne3 : ¬ (L : Int) = (n : Int) := by omega
  go_enter Tryz.func54, Tryz.ntmps54
  go_wp2_with fail
  refine hof.mono ?_
  rintro e w1 ⟨rfl, rfl⟩
  go_wp2_with fail
  go_ret2
  exact ⟨rfl, by first | rfl | trivial⟩

set_option maxRecDepth 100000 in
set_option maxHeartbeats 1000000 in
theorem rrelease_no {w : World} {r : Nat} {lv : Value} {hs : List (Int × ByteArray)} (hh : Held w r lv hs) (hl : hs.length ≤ 60) {f : Int} (hf : IsIn hs f = false) :
    Calls Tryz.prog 17 #[.pointer (some ⟨r, 0, none⟩), .int .i64 f] w fun e w' => e = .returned (.int .i64 2) ∧ w = w' := by
  obtain ⟨S, hof⟩ := rof_in hh hl f
  rw [hf] at hof
  clear hh hf
  go_enter Tryz.func17, Tryz.ntmps17
  go_wp2_with fail
  refine hof.mono ?_
  rintro e w1 ⟨rfl, rfl⟩
  go_wp2_with fail
  go_ret
  exact ⟨rfl, by first | rfl | trivial⟩

set_option maxRecDepth 100000 in
set_option maxHeartbeats 1000000 in
theorem rvariable_no {w : World} {r n : Nat} (hc : w.cell? ⟨r, 0, none⟩ = some (.int .i64 (n : Int))) {v : Int} (hv : v < 0 ∨ (n : Int) ≤ v) :
    Calls Tryz.prog 33 #[.pointer (some ⟨r, 0, none⟩), .int .i64 v] w fun e w' => e = .returned (.tuple #[.int .i64 0, .int .i64 3]) ∧ w = w' := by
  have hi := risvar_no hc hv
  clear hv
  go_enter Tryz.func33, Tryz.ntmps33
  go_wp2_with fail
  refine hi.mono ?_
  rintro e w1 ⟨rfl, rfl⟩
  go_wp2_with fail
  go_ret2
  exact ⟨rfl, by first | rfl | trivial⟩

end Go.Proofs.YtmgjegokkbghlaaGreat
