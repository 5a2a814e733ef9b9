/- The lines of a text, as strings.SplitSeq hands them out: the walk of the library's iterator, which keeps its rest in a cell. -/
import Derived.Test.YtmgjegokkbghlaaGreatDoorLineB
import Derived.RangeFuncNested
import Derived.RangeFuncBound
import Derived.RangeFuncCalls
import Derived.RangeFuncLeaves
import Derived.RangeFuncRecord
import Derived.Shelf.Abstract
import Derived.Shelf.RegionOpen
import Derived.OwnWalkIn
import Derived.TacticsInMore
import Derived.LoopNIn
import Derived.LoopIn
namespace Go.Proofs.YtmgjegokkbghlaaGreatDoor
open Go.RowKit Go.Maps Gram Circ Go.Shelf
attribute [local go_sem] Oper.semAt_some
set_option linter.unusedVariables false

/-! ### pieces, by the first byte 10 -/
theorem pieces_at : ∀ (l cur : List UInt8), (Lib.indexByte l 10 = -1 ∧ pieces cur l = [cur ++ l]) ∨ ∃ i : Nat, Lib.indexByte l 10 = (i : Int) ∧ i < l.length ∧ pieces cur l = (cur ++ l.take i) :: pieces [] (l.drop (i + 1))
  | [], cur => Or.inl ⟨rfl, by simp [pieces]⟩
  | c :: r, cur => by
    by_cases h : c = 10
    · subst h
      refine Or.inr ⟨0, by simp [Lib.indexByte], by simp, by simp [pieces]⟩
    · have hb : (c == 10) = false := by simpa using h
      rcases pieces_at r (cur ++ [c]) with ⟨h1, h2⟩ | ⟨i, h1, h2, h3⟩
      · refine Or.inl ⟨by simp [Lib.indexByte, hb, h1], by simp [pieces, hb, h2]⟩
      · refine Or.inr ⟨i + 1, ?_, by simp; omega, by simp [pieces, hb, h3]⟩
        have hne : ¬ ((i : Int) = -1) := by omega
        simp [Lib.indexByte, hb, h1, hne]

theorem index_nl {w : World} (s : ByteArray) :
    Calls Tryz.prog 174 #[.string s, .string ⟨#[10]⟩] w fun e w' => e = .returned (.int .i64 (Lib.indexByte (bl s) 10)) ∧ w = w' := by
  go_enter Tryz.func174, Tryz.ntmps174
  go_wp2_with (first
    | (go_at_call 192; refine (index_one s 10).mono ?_; rintro e w' ⟨rfl, rfl⟩))
  go_ret
  exact ⟨rfl, rfl⟩

/-- what the iterator leans on -/
structure Caps (W : World) (A B C : Nat) (s : List UInt8) : Prop where
  sep : W.cell? ⟨A, 0, none⟩ = some (.string ⟨#[10]⟩)
  rest : W.cell? ⟨B, 0, none⟩ = some (.string (mk s))
  save : W.cell? ⟨C, 0, none⟩ = some (.int .i64 0)
  free : W.frozen? ⟨B, 0, none⟩ = false

def restLen (B : Nat) (W : World) : Nat := match W.cell? ⟨B, 0, none⟩ with
  | some (.string s) => s.size
  | _ => 0
theorem Caps.len {W : World} {A B C : Nat} {s : List UInt8} (h : Caps W A B C s) : restLen B W = s.length := by
  unfold restLen; rw [h.rest]; rfl

set_option maxRecDepth 100000 in
set_option maxHeartbeats 2000000 in
theorem seq_in (n : Nat) (hn : 1 ≤ n) (l A B C : Nat) (hAB : A ≠ B) (hCB : C ≠ B) (text : List UInt8) (htl : text.length ≤ 1000) (J Jx : List (List UInt8) → World → Prop)
    (hJs : ∀ pre W v, J pre W → J pre (W.setCell ⟨B, 0, none⟩ v))
    (hY : ∀ pre x rest W, pieces [] text = pre ++ x :: rest → J pre W → ∀ s, Caps W A B C s → YieldAt Fence.wide (n - 1) Tryz.prog l #[.string (mk x)] W fun e W' =>
      (e = .returned (.bool true) ∧ J (pre ++ [x]) W' ∧ Caps W' A B C s) ∨ (e = .returned (.bool false) ∧ Jx (pre ++ [x]) W'))
    (W : World) (hC : Caps W A B C text) (h0 : J [] W) :
    CallsIn Fence.wide n Tryz.prog 172 #[.func (.yield l) #[] #[], .pointer (some ⟨A, 0, none⟩), .pointer (some ⟨B, 0, none⟩), .pointer (some ⟨C, 0, none⟩)] W fun e W' => (∃ v, e = .returned v) ∧
      (J (pieces [] text) W' ∨ (∃ pre x rest, pieces [] text = pre ++ x :: rest ∧ Jx (pre ++ [x]) W')) := by
  have c1 := hC.sep
  refine callsIn_of_wp Tryz.func172 rfl trivial ?_ rfl
  simp only [Tryz.ntmps172, List.size_toArray, List.length_cons, List.length_nil, Nat.reduceAdd, Nat.reduceSub, Array.replicate_succ, Array.replicate_zero, List.push_toArray, List.append_toArray, List.nil_append, List.cons_append]
  gi_wp2
  gi_loopw [] (fun wr => ∃ (pre : List (List UInt8)) (s : List UInt8), pieces [] text = pre ++ pieces [] s ∧ Caps wr A B C s ∧ J pre wr ∧ s.length ≤ 1000) (fun wr => restLen B wr)
  case atStart => exact ⟨[], text, rfl, hC, h0, htl⟩
  case round =>
    obtain ⟨pre, s, hp, hc, hJ, hsl⟩ := hrel
    have k1 := hc.sep
    have k2 := hc.rest
    have k3 := hc.save
    have k4 := hc.free
    have hrl := hc.len
    rcases pieces_at s [] with ⟨hi, hq⟩ | ⟨i, hi, hlt, hq⟩
    · simp only [List.nil_append] at hq
      rw [hq] at hp
      obtain ⟨fn, tmps, assign, body, hy, hR⟩ := hY pre s [] wr hp hJ s hc
      have HI : Hid (Lib.indexByte (bl (mk s)) 10 = -1) := hi
      clear hi
      gi_wp2_with (refine ⟨trivial, ?_⟩; gi_at_call 174; refine (callsIn_wide.2 (index_nl (mk s))).mono ?_; rintro e w' ⟨rfl, rfl⟩; rw [HI.out])
      refine hR.mono ?_
      rintro e W3 (⟨rfl, hJ3, hc3⟩ | ⟨rfl, hJx3⟩)
      · gi_wp2
        go_end0
        exact ⟨⟨_, rfl⟩, .inl (by rw [hp]; exact hJ3)⟩
      · gi_wp2
        go_end0
        exact ⟨⟨_, rfl⟩, .inr ⟨pre, s, [], hp, hJx3⟩⟩
    · simp only [List.nil_append] at hq
      have hp2 : pieces [] text = pre ++ s.take i :: pieces [] (s.drop (i + 1)) := by rw [hp, hq]
      obtain ⟨fn, tmps, assign, body, hy, hR⟩ := hY pre (s.take i) _ wr hp2 hJ s hc
      have e1 : mk (s.take i) = (mk s).extract 0 i := bl_ext (by rw [bl_extract, bl_mk, bl_mk]; rfl)
      have e2 : (mk s).extract (i + 1) (mk s).size = mk (s.drop (i + 1)) := bl_ext (by rw [bl_extract, bl_mk, bl_mk, mk_size, List.take_length])
      rw [e1] at hy
      have HI : Hid (Lib.indexByte (bl (mk s)) 10 = (i : Int)) := hi
      have hms : (mk s).size = s.length := mk_size s
      have hi1 : (i : Int) + 1 ≤ ((mk s).size : Int) := by omega
      have hi0 : (0 : Int) ≤ (i : Int) := by omega
      have HE2 : Hid ((mk s).extract (i + 1) (mk s).size = mk (s.drop (i + 1))) := e2
      clear hi e1 e2
      gi_wp2_with (refine ⟨trivial, ?_⟩; gi_at_call 174; refine (callsIn_wide.2 (index_nl (mk s))).mono ?_; rintro e w' ⟨rfl, rfl⟩; rw [HI.out])
      refine hR.mono ?_
      rintro e W3 (⟨rfl, hJ3, hc3⟩ | ⟨rfl, hJx3⟩)
      · have j1 := hc3.sep
        have j2 := hc3.rest
        have j3 := hc3.save
        have j4 := hc3.free
        gi_wp2
        have e3 : (mk s).extract (i + 1) s.length = mk (s.drop (i + 1)) := HE2.out
        rw [e3]
        have hc4 : Caps (W3.setCell ⟨B, 0, none⟩ (.string (mk (s.drop (i + 1))))) A B C (s.drop (i + 1)) :=
          ⟨(cell_off (fun e => hAB (by cases e; rfl))).trans j1, cell_set j2, (cell_off (fun e => hCB (by cases e; rfl))).trans j3, by rw [World.frozen?_setCell]; exact j4⟩
        refine ⟨⟨pre ++ [s.take i], s.drop (i + 1), by rw [hp2]; simp, hc4, hJs _ _ _ hJ3, by simp; omega⟩, ?_⟩
        rw [hc4.len, hrl]
        simp; omega
      · gi_wp2
        refine bodyPost_ret (results_none rfl _ _ _) rfl ?_
        exact ⟨⟨_, rfl⟩, .inr ⟨pre, s.take i, _, hp2, hJx3⟩⟩

end Go.Proofs.YtmgjegokkbghlaaGreatDoor
