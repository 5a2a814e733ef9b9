/- The document's store: what the calls refuse (no such handle, no such variable, out of range). -/
import Derived.Test.YtmgjegokkbghlaaGreatRefValue
namespace Go.Proofs.YtmgjegokkbghlaaGreat
open Go.RowKit Go.Maps Bdd
attribute [local go_sem ↓] Go.wp_at_zero Go.wp_at_succ

/-- is a handle held? -/
def IsIn (hs : List (Int × ByteArray)) (f : Int) : Bool := (hs.find? (fun p => p.1 == f)).isSome

theorem rof_in {w : World} {r : Nat} {lv : Value} {hs : List (Int × ByteArray)} (hh : Held w r lv hs) (hl : hs.length ≤ 60) (f : Int) :
    ∃ S, Calls Tryz.prog 42 #[.pointer (some ⟨r, 0, none⟩), .int .i64 f] w fun e w' => e = .returned (.tuple #[.string S, .bool (IsIn hs f)]) ∧ w = w' := by
  have h := rof_any hh hl f
  unfold ofV at h
  unfold IsIn
  cases hf : hs.find? (fun p => p.1 == f) with
  | none => rw [hf] at h; exact ⟨_, h⟩
  | some p => rw [hf] at h; exact ⟨_, h⟩

set_option maxRecDepth 100000 in
set_option maxHeartbeats 1000000 in
theorem rnot_no {w : World} {r : Nat} {lv : Value} {hs : List (Int × ByteArray)} (hh : Held w r lv hs) (hl : hs.length ≤ 60) {f : Int} (hf : IsIn hs f = false) :
    Calls Tryz.prog 34 #[.pointer (some ⟨r, 0, none⟩), .int .i64 f] w fun e w' => e = .returned (.tuple #[.int .i64 0, .int .i64 2]) ∧ w = w' := by
  obtain ⟨S, hof⟩ := rof_in hh hl f
  rw [hf] at hof
  clear hh hf
  go_enter Tryz.func34, Tryz.ntmps34
  go_wp2_with fail
  refine hof.mono ?_
  rintro e w1 ⟨rfl, rfl⟩
  go_wp2_with fail
  go_ret2
  exact ⟨rfl, by first | rfl | trivial⟩

set_option maxRecDepth 100000 in
set_option maxHeartbeats 1000000 in
theorem rvalue_no {w : World} {r : Nat} {lv vs : Value} {hs : List (Int × ByteArray)} (hh : Held w r lv hs) (hl : hs.length ≤ 60) {f : Int} (hf : IsIn hs f = false) :
    Calls Tryz.prog 54 #[.pointer (some ⟨r, 0, none⟩), .int .i64 f, vs] w fun e w' => e = .returned (.tuple #[.bool false, .int .i64 2]) ∧ w = w' := by
  obtain ⟨S, hof⟩ := rof_in hh hl f
  rw [hf] at hof
  clear hh hf
  go_enter Tryz.func54, Tryz.ntmps54
  go_wp2_with fail
  refine hof.mono ?_
  rintro e w1 ⟨rfl, rfl⟩
  go_wp2_with fail
  go_ret2
  exact ⟨rfl, by first | rfl | trivial⟩

set_option maxRecDepth 100000 in
set_option maxHeartbeats 1000000 in
theorem rchoose_no {w : World} {r : Nat} {lv : Value} {hs : List (Int × ByteArray)} (hh : Held w r lv hs) (hl : hs.length ≤ 60) {f g h : Int} (hf : (IsIn hs f && IsIn hs g && IsIn hs h) = false) :
    Calls Tryz.prog 36 #[.pointer (some ⟨r, 0, none⟩), .int .i64 f, .int .i64 g, .int .i64 h] w fun e w' => e = .returned (.tuple #[.int .i64 0, .int .i64 2]) ∧ w = w' := by
  obtain ⟨S1, h1⟩ := rof_in hh hl f
  obtain ⟨S2, h2⟩ := rof_in hh hl g
  obtain ⟨S3, h3⟩ := rof_in hh hl h
  clear hh
  generalize IsIn hs f = a at *
  generalize IsIn hs g = b at *
  generalize IsIn hs h = c at *
  cases a <;> cases b <;> cases c
  case true.true.true => exact absurd hf (by decide)
  all_goals
    clear hf
    go_enter Tryz.func36, Tryz.ntmps36
    go_wp2_with fail
    refine h1.mono ?_
    rintro e w1 ⟨rfl, rfl⟩
    go_wp2_with fail
    refine h2.mono ?_
    rintro e w1 ⟨rfl, rfl⟩
    go_wp2_with fail
    refine h3.mono ?_
    rintro e w1 ⟨rfl, rfl⟩
    go_wp2_with fail
    go_ret2
    exact ⟨rfl, by first | rfl | trivial⟩

set_option maxRecDepth 100000 in
set_option maxHeartbeats 1000000 in
theorem rapply_no {w : World} {r : Nat} {lv : Value} {hs : List (Int × ByteArray)} (hh : Held w r lv hs) (hl : hs.length ≤ 60) {what f g : Int} (hf : (IsIn hs f && IsIn hs g) = false) :
    Calls Tryz.prog 35 #[.pointer (some ⟨r, 0, none⟩), .int .i64 what, .int .i64 f, .int .i64 g] w fun e w' => e = .returned (.tuple #[.int .i64 0, .int .i64 2]) ∧ w = w' := by
  obtain ⟨S1, h1⟩ := rof_in hh hl f
  obtain ⟨S2, h2⟩ := rof_in hh hl g
  clear hh
  generalize IsIn hs f = a at *
  generalize IsIn hs g = b at *
  cases a <;> cases b
  case true.true => exact absurd hf (by decide)
  all_goals
    clear hf
    go_enter Tryz.func35, Tryz.ntmps35
    go_wp2_with fail
    refine h1.mono ?_
    rintro e w1 ⟨rfl, rfl⟩
    go_wp2_with fail
    refine h2.mono ?_
    rintro e w1 ⟨rfl, rfl⟩
    go_wp2_with fail
    go_ret2
    exact ⟨rfl, by first | rfl | trivial⟩

end Go.Proofs.YtmgjegokkbghlaaGreat
