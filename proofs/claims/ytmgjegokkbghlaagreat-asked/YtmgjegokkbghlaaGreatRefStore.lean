/- The document's store in memory: of, all. -/
import Derived.Test.YtmgjegokkbghlaaGreatRefCountW
namespace Go.Proofs.YtmgjegokkbghlaaGreat
open Go.RowKit Go.Maps Bdd
attribute [local go_sem ↓] Go.wp_at_zero Go.wp_at_succ

/-- what is held, cell by cell -/
def flatH (hs : List (Int × ByteArray)) : List Value := hs.flatMap fun p => [.int .i64 p.1, .string p.2]
theorem flatH_snoc (hs : List (Int × ByteArray)) (p : Int × ByteArray) : flatH (hs ++ [p]) = flatH hs ++ [.int .i64 p.1, .string p.2] := by simp [flatH]
theorem flatH_get : ∀ (hs : List (Int × ByteArray)) (j : Nat) (hj : j < hs.length), (flatH hs)[j * 2]? = some (.int .i64 hs[j].1) ∧ (flatH hs)[j * 2 + 1]? = some (.string hs[j].2)
  | [], j, hj => by simp at hj
  | p :: r, 0, hj => by simp [flatH]
  | p :: r, j + 1, hj => by
    have := flatH_get r j (by simpa using hj)
    have e1 : (j + 1) * 2 = j * 2 + 1 + 1 := by omega
    have e3 : flatH (p :: r) = Value.int .i64 p.1 :: Value.string p.2 :: flatH r := by simp [flatH]
    rw [e1, e3]
    simpa using this

/-- what is held in a list of the store's -/
structure Held (w : World) (r : Nat) (lv : Value) (hs : List (Int × ByteArray)) : Prop where
  c4 : w.cell? ⟨r, 4, none⟩ = some lv
  own : w.ownsRow 0 73 2 lv hs.length (flatH hs)
theorem Held.cell {w : World} {r : Nat} {lv : Value} {hs : List (Int × ByteArray)} (h : Held w r lv hs) {j : Nat} (hj : j < hs.length) : ∃ g cap, lv = .slice (some ⟨g, 0, none⟩) hs.length cap ∧ w.cell? ⟨g, j * 2, none⟩ = some (.int .i64 hs[j].1) ∧ w.cell? ⟨g, j * 2 + 1, none⟩ = some (.string hs[j].2) := by
  have hh := h.own
  rcases h.own.2 with ⟨_, h0⟩ | ⟨g, cap, cur, e, hb, hgg, rest⟩
  · omega
  · subst e
    obtain ⟨f1, f2⟩ := flatH_get hs j hj
    refine ⟨g, cap, rfl, ?_, ?_⟩
    · rw [World.ownsRow.cellAt hh (j * 2) (by omega), f1]
    · rw [World.ownsRow.cellAt hh (j * 2 + 1) (by omega), f2]
theorem Held.form {w : World} {r : Nat} {lv : Value} {hs : List (Int × ByteArray)} (h : Held w r lv hs) : ∃ a cap, lv = .slice a hs.length cap := by
  rcases h.own.2 with ⟨e, h0⟩ | ⟨g, cap, cur, e, _⟩
  · exact ⟨none, 0, by rw [e, h0]⟩
  · exact ⟨_, cap, e⟩

/-- what 'of' answers -/
def ofV (hs : List (Int × ByteArray)) (h : Int) : Value := match hs.find? (fun p => p.1 == h) with
  | some p => .tuple #[.string p.2, .bool true]
  | none => .tuple #[.string ByteArray.empty, .bool false]

set_option maxRecDepth 100000 in
set_option maxHeartbeats 1000000 in
theorem rof_any {w : World} {r : Nat} {lv : Value} {hs : List (Int × ByteArray)} (hh : Held w r lv hs) (hl : hs.length ≤ 60) (h : Int) :
    Calls Tryz.prog 42 #[.pointer (some ⟨r, 0, none⟩), .int .i64 h] w fun e w' => e = .returned (ofV hs h) ∧ w = w' := by
  obtain ⟨a, cap, rfl⟩ := hh.form
  have c4 := hh.c4
  obtain ⟨m, hm⟩ : ∃ m, m = hs.length := ⟨_, rfl⟩
  rw [← hm] at hh c4 hl
  obtain ⟨V, hV⟩ : ∃ V, V = ofV hs h := ⟨_, rfl⟩
  rw [← hV]
  have HV : Hid (V = ofV hs h) := hV
  have Hm : Hid (m = hs.length) := hm
  have HH : Hid (Held w r (.slice a m cap) hs) := hh
  clear hV hh hm
  go_enter Tryz.func42, Tryz.ntmps42
  go_wp2_with fail
  go_loopw [6] (fun x wr => ∃ j : Nat, j ≤ m ∧ x = .int .i64 j ∧ (∀ i (hi : i < hs.length), i < j → hs[i].1 ≠ h) ∧ w = wr) (fun x _ => m - (intOf x).toNat)
  case atStart => exact ⟨0, by omega, rfl, fun i _ hi => by omega, rfl⟩
  case round =>
    obtain ⟨j, hj, rfl, hall, rfl⟩ := hrel
    by_cases hlt : j < m
    · have hj0 : (0 : Int) ≤ (j : Int) := by omega
      have hj1 : (j : Int) < (m : Int) := by omega
      have hjl : j < hs.length := by rw [← Hm.out]; exact hlt
      obtain ⟨g, cap', e, h1, h2⟩ := HH.out.cell hjl
      have ea : a = some ⟨g, 0, none⟩ := by simp at e; exact e.1
      subst ea
      obtain ⟨x, hx⟩ : ∃ x, x = hs[j].1 := ⟨_, rfl⟩
      obtain ⟨S, hS⟩ : ∃ S, S = hs[j].2 := ⟨_, rfl⟩
      rw [← hx] at h1
      rw [← hS] at h2
      have HX : Hid (x = hs[j].1) := hx
      have HS : Hid (S = hs[j].2) := hS
      clear hx hS e
      by_cases ex : x = h
      · have e' : (x == h) = true := by simp [ex]
        have HE : Hid (V = .tuple #[.string S, .bool true]) := by
          show V = _
          rw [HV.out]
          unfold ofV
          have hf : hs.find? (fun p => p.1 == h) = some hs[j] := by
            rw [List.find?_eq_some_iff_getElem]
            refine ⟨by simp [← HX.out, ex], j, hjl, rfl, fun i hi => ?_⟩
            have := hall i (by omega) hi
            simpa using this
          rw [hf, HS.out]
        clear ex
        go_wp2_with fail
        go_ret2
        exact ⟨by rw [HE.out]; rfl, by first | rfl | trivial⟩
      · have e' : (x == h) = false := by simp [ex]
        have HE : Hid (x ≠ h) := ex
        clear ex
        go_wp2_with fail
        go_roundw
        case rel =>
          refine ⟨j + 1, by omega, by go_num, fun i hi hij => ?_, by first | rfl | trivial⟩
          by_cases ei : i = j
          · subst ei; rw [← HX.out]; exact HE.out
          · exact hall i hi (by omega)
        case measure => simp [intOf]; omega
    · have e : j = m := by omega
      subst e
      have HE : Hid (V = .tuple #[.string ByteArray.empty, .bool false]) := by
        show V = _
        rw [HV.out]
        unfold ofV
        have hf : hs.find? (fun p => p.1 == h) = none := by
          rw [List.find?_eq_none]
          intro p hp
          obtain ⟨i, hi, rfl⟩ := List.getElem_of_mem hp
          have := hall i hi (by rw [Hm.out]; exact hi)
          simpa using this
        rw [hf]
      go_wp2_with fail
      go_ret2
      exact ⟨by rw [HE.out]; rfl, by first | rfl | trivial⟩

end Go.Proofs.YtmgjegokkbghlaaGreat
