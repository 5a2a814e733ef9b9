/- The document's store: what the calls refuse (no such handle, no such variable, out of range). The document's store: what the calls refuse, further. The document's store: Release. -/
import Derived.Test.YtmgjegokkbghlaaGreatRefMake
namespace Go.Proofs.YtmgjegokkbghlaaGreat
open Go.RowKit Go.Maps Bdd
attribute [local go_sem ↓] Go.wp_at_zero Go.wp_at_succ

/-- is a handle held? -/
def IsIn (hs : List (Int × ByteArray)) (f : Int) : Bool := (hs.find? (fun p => p.1 == f)).isSome

theorem rof_in {w : World} {r : Nat} {lv : Value} {hs : List (Int × ByteArray)} (hh : Held w r lv hs) (hl : hs.length ≤ 60) (f : Int) :
    ∃ S, Calls Tryz.prog 42 #[.pointer (some ⟨r, 0, none⟩), .int .i64 f] w fun e w' => e = .returned (.tuple #[.string S, .bool (IsIn hs f)]) ∧ w = w' := by
  have h := rof_any hh hl f
  unfold ofV at h
  unfold IsIn
  cases hf : hs.find? (fun p => p.1 == f) with
  | none => rw [hf] at h; exact ⟨_, h⟩
  | some p => rw [hf] at h; exact ⟨_, h⟩

set_option maxRecDepth 100000 in
set_option maxHeartbeats 1000000 in
theorem rnot_no {w : World} {r : Nat} {lv : Value} {hs : List (Int × ByteArray)} (hh : Held w r lv hs) (hl : hs.length ≤ 60) {f : Int} (hf : IsIn hs f = false) :
    Calls Tryz.prog 34 #[.pointer (some ⟨r, 0, none⟩), .int .i64 f] w fun e w' => e = .returned (.tuple #[.int .i64 0, .int .i64 2]) ∧ w = w' := by
  obtain ⟨S, hof⟩ := rof_in hh hl f
  rw [hf] at hof
  clear hh hf
  go_enter Tryz.func34, Tryz.ntmps34
  go_wp2_with fail
  refine hof.mono ?_
  rintro e w1 ⟨rfl, rfl⟩
  go_wp2_with fail
  go_ret2
  exact ⟨rfl, by first | rfl | trivial⟩

set_option maxRecDepth 100000 in
set_option maxHeartbeats 1000000 in
theorem rvalue_no {w : World} {r : Nat} {lv vs : Value} {hs : List (Int × ByteArray)} (hh : Held w r lv hs) (hl : hs.length ≤ 60) {f : Int} (hf : IsIn hs f = false) :
    Calls Tryz.prog 54 #[.pointer (some ⟨r, 0, none⟩), .int .i64 f, vs] w fun e w' => e = .returned (.tuple #[.bool false, .int .i64 2]) ∧ w = w' := by
  obtain ⟨S, hof⟩ := rof_in hh hl f
  rw [hf] at hof
  clear hh hf
  go_enter Tryz.func54, Tryz.ntmps54
  go_wp2_with fail
  refine hof.mono ?_
  rintro e w1 ⟨rfl, rfl⟩
  go_wp2_with fail
  go_ret2
  exact ⟨rfl, by first | rfl | trivial⟩

set_option maxRecDepth 100000 in
set_option maxHeartbeats 1000000 in
theorem rchoose_no {w : World} {r : Nat} {lv : Value} {hs : List (Int × ByteArray)} (hh : Held w r lv hs) (hl : hs.length ≤ 60) {f g h : Int} (hf : (IsIn hs f && IsIn hs g && IsIn hs h) = false) :
    Calls Tryz.prog 36 #[.pointer (some ⟨r, 0, none⟩), .int .i64 f, .int .i64 g, .int .i64 h] w fun e w' => e = .returned (.tuple #[.int .i64 0, .int .i64 2]) ∧ w = w' := by
  obtain ⟨S1, h1⟩ := rof_in hh hl f
  obtain ⟨S2, h2⟩ := rof_in hh hl g
  obtain ⟨S3, h3⟩ := rof_in hh hl h
  clear hh
  generalize IsIn hs f = a at *
  generalize IsIn hs g = b at *
  generalize IsIn hs h = c at *
  cases a <;> cases b <;> cases c
  case true.true.true => exact absurd hf (by decide)
  all_goals
    clear hf
    go_enter Tryz.func36, Tryz.ntmps36
    go_wp2_with fail
    refine h1.mono ?_
    rintro e w1 ⟨rfl, rfl⟩
    go_wp2_with fail
    refine h2.mono ?_
    rintro e w1 ⟨rfl, rfl⟩
    go_wp2_with fail
    refine h3.mono ?_
    rintro e w1 ⟨rfl, rfl⟩
    go_wp2_with fail
    go_ret2
    exact ⟨rfl, by first | rfl | trivial⟩

set_option maxRecDepth 100000 in
set_option maxHeartbeats 1000000 in
theorem rapply_no {w : World} {r : Nat} {lv : Value} {hs : List (Int × ByteArray)} (hh : Held w r lv hs) (hl : hs.length ≤ 60) {what f g : Int} (hf : (IsIn hs f && IsIn hs g) = false) :
    Calls Tryz.prog 35 #[.pointer (some ⟨r, 0, none⟩), .int .i64 what, .int .i64 f, .int .i64 g] w fun e w' => e = .returned (.tuple #[.int .i64 0, .int .i64 2]) ∧ w = w' := by
  obtain ⟨S1, h1⟩ := rof_in hh hl f
  obtain ⟨S2, h2⟩ := rof_in hh hl g
  clear hh
  generalize IsIn hs f = a at *
  generalize IsIn hs g = b at *
  cases a <;> cases b
  case true.true => exact absurd hf (by decide)
  all_goals
    clear hf
    go_enter Tryz.func35, Tryz.ntmps35
    go_wp2_with fail
    refine h1.mono ?_
    rintro e w1 ⟨rfl, rfl⟩
    go_wp2_with fail
    refine h2.mono ?_
    rintro e w1 ⟨rfl, rfl⟩
    go_wp2_with fail
    go_ret2
    exact ⟨rfl, by first | rfl | trivial⟩

end Go.Proofs.YtmgjegokkbghlaaGreat

namespace Go.Proofs.YtmgjegokkbghlaaGreat
open Go.RowKit Go.Maps Bdd
attribute [local go_sem ↓] Go.wp_at_zero Go.wp_at_succ

set_option maxRecDepth 100000 in
set_option maxHeartbeats 1000000 in
theorem rapply_range {w : World} {r : Nat} {lv : Value} {hs : List (Int × ByteArray)} (hh : Held w r lv hs) (hl : hs.length ≤ 60) {what f g : Int} (hf : (IsIn hs f && IsIn hs g) = true) (hw : what < 0 ∨ 3 < what) :
    Calls Tryz.prog 35 #[.pointer (some ⟨r, 0, none⟩), .int .i64 what, .int .i64 f, .int .i64 g] w fun e w' => e = .returned (.tuple #[.int .i64 0, .int .i64 1]) ∧ w = w' := by
  obtain ⟨S1, h1⟩ := rof_in hh hl f
  obtain ⟨S2, h2⟩ := rof_in hh hl g
  clear hh
  obtain ⟨ha, hb⟩ := Bool.and_eq_true_iff.1 hf
  rw [ha] at h1
  rw [hb] at h2
  clear hf ha hb
  by_cases hw0 : what < 0
  · clear hw
    go_enter Tryz.func35, Tryz.ntmps35
    go_wp2_with fail
    refine h1.mono ?_
    rintro e w1 ⟨rfl, rfl⟩
    go_wp2_with fail
    refine h2.mono ?_
    rintro e w1 ⟨rfl, rfl⟩
    go_wp2_with fail
    go_ret2
    exact ⟨rfl, by first | rfl | trivial⟩
  · have hw1 : 3 < what := by omega
    have hw2 : 0 ≤ what := by omega
    clear hw hw0
    go_enter Tryz.func35, Tryz.ntmps35
    go_wp2_with fail
    refine h1.mono ?_
    rintro e w1 ⟨rfl, rfl⟩
    go_wp2_with fail
    refine h2.mono ?_
    rintro e w1 ⟨rfl, rfl⟩
    go_wp2_with fail
    go_ret2
    exact ⟨rfl, by first | rfl | trivial⟩

set_option maxRecDepth 100000 in
set_option maxHeartbeats 1000000 in
theorem rvalue_range {w : World} {r n L cap : Nat} {p : Option Addr} {lv : Value} {hs : List (Int × ByteArray)} (hc : w.cell? ⟨r, 0, none⟩ = some (.int .i64 (n : Int))) (hh : Held w r lv hs) (hl : hs.length ≤ 60) {f : Int} (hf : IsIn hs f = true) (hL : L ≠ n) :
    Calls Tryz.prog 54 #[.pointer (some ⟨r, 0, none⟩), .int .i64 f, .slice p L cap] w fun e w' => e = .returned (.tuple #[.bool false, .int .i64 1]) ∧ w = w' := by
  obtain ⟨S, hof⟩ := rof_in hh hl f
  rw [hf] at hof
  clear hh hf
  have hne : ((L : Int) != (n : Int)) = true := by simp; omega
  have hne2 : ((L : Int) == (n : Int)) = false := by simp; omega
  have hne3 : ¬ (L : Int) = (n : Int) := by omega
  go_enter Tryz.func54, Tryz.ntmps54
  go_wp2_with fail
  refine hof.mono ?_
  rintro e w1 ⟨rfl, rfl⟩
  go_wp2_with fail
  go_ret2
  exact ⟨rfl, by first | rfl | trivial⟩

set_option maxRecDepth 100000 in
set_option maxHeartbeats 1000000 in
theorem rrelease_no {w : World} {r : Nat} {lv : Value} {hs : List (Int × ByteArray)} (hh : Held w r lv hs) (hl : hs.length ≤ 60) {f : Int} (hf : IsIn hs f = false) :
    Calls Tryz.prog 17 #[.pointer (some ⟨r, 0, none⟩), .int .i64 f] w fun e w' => e = .returned (.int .i64 2) ∧ w = w' := by
  obtain ⟨S, hof⟩ := rof_in hh hl f
  rw [hf] at hof
  clear hh hf
  go_enter Tryz.func17, Tryz.ntmps17
  go_wp2_with fail
  refine hof.mono ?_
  rintro e w1 ⟨rfl, rfl⟩
  go_wp2_with fail
  go_ret
  exact ⟨rfl, by first | rfl | trivial⟩

set_option maxRecDepth 100000 in
set_option maxHeartbeats 1000000 in
theorem rvariable_no {w : World} {r n : Nat} (hc : w.cell? ⟨r, 0, none⟩ = some (.int .i64 (n : Int))) {v : Int} (hv : v < 0 ∨ (n : Int) ≤ v) :
    Calls Tryz.prog 33 #[.pointer (some ⟨r, 0, none⟩), .int .i64 v] w fun e w' => e = .returned (.tuple #[.int .i64 0, .int .i64 3]) ∧ w = w' := by
  have hi := risvar_no hc hv
  clear hv
  go_enter Tryz.func33, Tryz.ntmps33
  go_wp2_with fail
  refine hi.mono ?_
  rintro e w1 ⟨rfl, rfl⟩
  go_wp2_with fail
  go_ret2
  exact ⟨rfl, by first | rfl | trivial⟩

end Go.Proofs.YtmgjegokkbghlaaGreat

namespace Go.Proofs.YtmgjegokkbghlaaGreat
open Go.RowKit Go.Maps Bdd
attribute [local go_sem ↓] Go.wp_at_zero Go.wp_at_succ

/-- what is left when a handle is released -/
def leftH (hs : List (Int × ByteArray)) (f : Int) : List (Int × ByteArray) := hs.filter fun p => p.1 != f

theorem row_form {w : World} {b ty s n : Nat} {v : Value} {vs : List Value} (h : w.ownsRow b ty s v n vs) : ∃ a l cap, v = .slice a l cap := by
  rcases h.2 with ⟨e, h0⟩ | ⟨g, cap, cur, e, _⟩
  · exact ⟨none, 0, 0, e⟩
  · exact ⟨_, _, cap, e⟩

set_option maxRecDepth 100000 in
set_option maxHeartbeats 1000000 in
theorem rrelease_any {w : World} {r : Nat} {lv : Value} {hs : List (Int × ByteArray)} (hh : Held w r lv hs) (hl : hs.length ≤ 60) (hfr : w.frozen? ⟨r, 4, none⟩ = false) {f : Int} (hf : IsIn hs f = true) :
    Calls Tryz.prog 17 #[.pointer (some ⟨r, 0, none⟩), .int .i64 f] w fun e w' => e = .returned (.int .i64 0) ∧ ∃ v w1, w1.ownsRow w.heap.size 73 2 v (leftH hs f).length (flatH (leftH hs f)) ∧ Keeps [] w w1 ∧ w' = w1.setCell ⟨r, 4, none⟩ v := by
  obtain ⟨j0, hJ0, hy0, hy1, hy2⟩ := info_parts infoHeld
  have hml : 1000000 < maxLen := by decide
  obtain ⟨S0, hof⟩ := rof_in hh hl f
  rw [hf] at hof
  obtain ⟨a, cap, rfl⟩ := hh.form
  have c4 := hh.c4
  obtain ⟨m, hm⟩ : ∃ m, m = hs.length := ⟨_, rfl⟩
  rw [← hm] at hh c4 hl
  have Hm : Hid (m = hs.length) := hm
  have HH : Hid (Held w r (.slice a m cap) hs) := hh
  clear hh hm hf
  go_enter Tryz.func17, Tryz.ntmps17
  go_wp2_with fail
  refine hof.mono ?_
  rintro e w1 ⟨rfl, rfl⟩
  go_wp2_with fail
  go_loopw [7, 8] (fun v x wr => ∃ j : Nat, j ≤ m ∧ x = .int .i64 j ∧ wr.ownsRow w.heap.size 73 2 v (leftH (hs.take j) f).length (flatH (leftH (hs.take j) f)) ∧ Keeps [] w wr) (fun _ x _ => m - (intOf x).toNat)
  case atStart => exact ⟨0, by omega, rfl, World.ownsRow_nil _ _ _ _, Keeps.refl _ _⟩
  case round =>
    obtain ⟨j, hj, rfl, hown, hk⟩ := hrel
    have hbase := hk.size
    have c4' := hk.cell c4 (by simp)
    by_cases hlt : j < m
    · have hj0 : (0 : Int) ≤ (j : Int) := by omega
      have hj1 : (j : Int) < (m : Int) := by omega
      have hjl : j < hs.length := by rw [← Hm.out]; exact hlt
      obtain ⟨g, cap', e, h1, h2⟩ := HH.out.cell hjl
      have ea : a = some ⟨g, 0, none⟩ := by simp at e; exact e.1
      subst ea
      obtain ⟨x, hx⟩ : ∃ x, x = hs[j].1 := ⟨_, rfl⟩
      obtain ⟨S, hS⟩ : ∃ S, S = hs[j].2 := ⟨_, rfl⟩
      rw [← hx] at h1
      rw [← hS] at h2
      have h1' := hk.cell h1 (by simp)
      have h2' := hk.cell h2 (by simp)
      have HT : Hid (leftH (hs.take (j + 1)) f = leftH (hs.take j) f ++ (if x != f then [(x, S)] else [])) := by
        show _ = _
        rw [take_snoc hjl, hS, hx]
        simp only [leftH, List.filter_append, List.filter_cons, List.filter_nil]
      have hcn : (leftH (hs.take j) f).length ≤ 60 := by
        have := List.length_filter_le (fun p : Int × ByteArray => p.1 != f) (hs.take j)
        have h3 : (hs.take j).length ≤ j := by simp; omega
        unfold leftH; omega
      clear hS hx e h1 h2
      generalize leftH (hs.take j) f = L at *
      obtain ⟨c, hcc⟩ : ∃ c, c = L.length := ⟨_, rfl⟩
      rw [← hcc] at hown hcn
      have HCC : Hid (c = L.length) := hcc
      clear hcc
      by_cases ex : x = f
      · have e' : (x != f) = false := by simp [ex]
        have HT2 : Hid (leftH (hs.take (j + 1)) f = L) := by show _ = _; rw [HT.out, e']; simp
        clear ex HT
        go_wp2_with fail
        go_roundw
        case rel => exact ⟨j + 1, by omega, by go_num, by rw [HT2.out, ← HCC.out]; exact hown, hk⟩
        case measure => simp [intOf]; omega
      · have e' : (x != f) = true := by simp [ex]
        have HT2 : Hid (leftH (hs.take (j + 1)) f = L ++ [(x, S)]) := by show _ = _; rw [HT.out, e']; simp
        clear ex HT
        go_wp2_with (first
          | (at_builtin; refine wpList_append_own_at _ rfl _ _ 57 rfl w.heap.size 73 j0 _ 2 24 Tryz.underlying57 hJ0 hy0 hy1 hy2 rfl (by decide) _ c _ rfl (hown.alloc _) ⟨wr.heap.size, 0, none⟩ 1 1 [.int .i64 x, .string S] rfl rfl (cells_laid _ _ _) (by simp [Value.oneCell']) (by omega) (by omega) (by simp; omega) ?_; intro v' w1 hown' hgrow hnil hloc)
          | fail)
        go_roundw
        case rel =>
          refine ⟨j + 1, by omega, by go_num, ?_, (hk.alloc _).grown hgrow (fun k hk' => Or.inr (hown.lt k hk').1)⟩
          rw [HT2.out, flatH_snoc, List.length_append, ← HCC.out]
          exact hown'
        case measure => simp [intOf]; omega
    · have e : j = m := by omega
      subst e
      have HT : Hid (leftH (hs.take j) f = leftH hs f) := by show _ = _; rw [List.take_of_length_le (by rw [← Hm.out]; exact Nat.le_refl _)]
      have hlr : r < w.heap.size := cell_lt (p := ⟨r, 4, none⟩) c4
      have f4 : wr.frozen? ⟨r, 4, none⟩ = false := by rw [hk.frozen (p := ⟨r, 4, none⟩) hlr (by simp)]; exact hfr
      obtain ⟨a', l', cap', rfl⟩ := row_form hown
      go_wp2_with fail
      go_ret
      exact ⟨rfl, _, _, by rw [← HT.out]; exact hown, hk, rfl⟩

end Go.Proofs.YtmgjegokkbghlaaGreat
