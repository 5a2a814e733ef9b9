/- behind: the states in which the steps from some states end. -/
import Derived.Test.YtmgjegokkbghlaaGreatDoorSome
namespace Go.Proofs.YtmgjegokkbghlaaGreatDoor
open Go.RowKit Go.Maps Bdd Circ
set_option linter.unusedVariables false

open Classical in
noncomputable def exF (fr : Int → Bool) (F : Fun) : Fun := fun a => decide (ExP fr F a)
open Classical in
theorem exF_iff {fr : Int → Bool} {F : Fun} {a : Int → Bool} : exF fr F a = true ↔ ExP fr F a := by unfold exF; exact decide_eq_true_iff
theorem mexists {w : World} {m t bn bm L I K : Nat} {N : Tab} (h : Mk w m t bn bm L I K N) {f : Int} {F : Fun} (hv : Val N f F) {B n cap : Nat} {fr : Int → Bool} (hn : n = 2 * L + I) (hd : MarksD w B n (fun i => fr (i : Int))) (hB : B < w.heap.size) (hBS : B ∉ [t, bn, bm]) (hK : K ≤ Big) :
    Calls Tryz.prog 136 #[.pointer (some ⟨t, 0, none⟩), .int .i64 f, .slice (some ⟨B, 0, none⟩) n cap] w fun e w' => Res w m t bn bm L I (K + 4194304) N (exF fr F) e w' := by
  subst hn
  obtain ⟨sz, last, hT, h4, h5⟩ := h.tab
  have hb := big_max
  have hf := big_fit
  have htr : Truths w B 0 (2 * L + I) fr := fun i hi => by rw [Nat.zero_add]; exact (hd i hi).1
  refine (texists_any (cap := cap) hT hv.1 htr hBS hB (by omega) (by omega)).mono ?_
  rintro e w1 ⟨r, N', last', sz', rfl, g1, g2, g3, g4, g5, g6, g7, g8⟩
  refine ⟨r, N', rfl, h.step g1 (by omega) (by omega) g8, fun x F hv => hv.sub hT.wf g1.wf g2, ⟨g3, fun a => ?_⟩, g8⟩
  have : E N f = F := funext hv.2
  rw [Bool.eq_iff_iff, g4, this, exF_iff]

/-- the levels that are not those behind a step -/
def freeB (L : Nat) (i : Int) : Bool := decide (i < (L : Int)) || decide (((2 * L : Nat) : Int) ≤ i)
/-- the first k latches and those behind a step in each other's place -/
def swapK (L : Nat) : Nat → (Int → Bool) → Int → Bool
  | 0, a => a
  | k + 1, a => swapK L k (swapA a (k : Int) ((L + k : Nat) : Int))

set_option maxRecDepth 100000 in
set_option maxHeartbeats 1000000 in
theorem behind_any {w : World} {m t bn bm L I K : Nat} {N : Tab} (h : Mk w m t bn bm L I K N) {f s : Int} {F G : Fun} (hv : Val N f F) (hs : Val N s G) (hc4 : w.cell? ⟨m, 4, none⟩ = some (.int .i64 s)) (hK : K + 5000000 ≤ Big) :
    Calls Tryz.prog 71 #[.pointer (some ⟨m, 0, none⟩), .int .i64 f] w fun e w' => Res w m t bn bm L I (K + 5000000) N (fun a => exF (freeB L) (fun b => F b && G b) (swapK L L a)) e w' := by
  obtain ⟨i0, hi0, hz0, hz1, hz2⟩ := info_parts infoB
  have hL4 := h.hL
  have hI3 := h.hI
  have hlt := h.lt
  have hmk := makeD_run (t := 22) Tryz.underlying22 hi0 hz0 hz1 hz2 (by decide) rfl (L := 2 * L + I) (by omega)
  have hmk' : ∀ w, (Instr.makeSlice 22 (.int .i64 (2 * (L : Int) + (I : Int))) (.int .i64 (2 * (L : Int) + (I : Int)))).run Tryz.prog w = .ok (.slice (some ⟨w.heap.size, 0, none⟩) (2 * L + I) (2 * L + I)) (w.alloc (.cells (fillD (.bool false) (2 * L + I)) 4)) := fun w => by
    have := hmk w
    rwa [Int.natCast_add, Int.natCast_mul] at this
  have s0 : w.drew.cell? ⟨m, 1, none⟩ = some (.int .i64 (L : Int)) ∧ w.drew.cell? ⟨m, 2, none⟩ = some (.int .i64 (I : Int)) := ⟨h.c1, h.c2⟩
  have s1 : (w.alloc (.cells (fillD (.bool false) (2 * L + I)) 4)).drew.cell? ⟨m, 1, none⟩ = some (.int .i64 (L : Int)) ∧ (w.alloc (.cells (fillD (.bool false) (2 * L + I)) 4)).drew.cell? ⟨m, 2, none⟩ = some (.int .i64 (I : Int)) := ⟨((Keeps.refl [] w).alloc _).cell h.c1 (by simp), ((Keeps.refl [] w).alloc _).cell h.c2 (by simp)⟩
  have s2 : (w.drew.alloc (.cells (fillD (.bool false) (2 * L + I)) 4)).cell? ⟨m, 1, none⟩ = some (.int .i64 (L : Int)) ∧ (w.drew.alloc (.cells (fillD (.bool false) (2 * L + I)) 4)).cell? ⟨m, 2, none⟩ = some (.int .i64 (I : Int)) := s1
  have HM := hid_intro h
  have HV := hid_intro hv
  have HS := hid_intro hs
  have HC4 := hid_intro hc4
  have hL0 : (0 : Int) ≤ (L : Int) := by omega
  have w1 : IntKind.i64.wrap (2 * (L : Int)) = 2 * (L : Int) := IntWalk.i64_in _ ⟨by omega, by omega⟩
  have w2 : IntKind.i64.wrap (2 * (L : Int) + (I : Int)) = 2 * (L : Int) + (I : Int) := IntWalk.i64_in _ ⟨by omega, by omega⟩
  clear h hv hs hc4 hmk
  go_enter Tryz.func71, Tryz.ntmps71
  go_wp2_with fail
  go_region_held3 (fun w' => w'.cell? ⟨m, 1, none⟩ = some (.int .i64 (L : Int)) ∧ w'.cell? ⟨m, 2, none⟩ = some (.int .i64 (I : Int)))
    (first | exact s0 | exact s1 | exact s2 | assumption)
    (fail)
  obtain ⟨T, hT⟩ : ∃ T, T = 2 * L + I := ⟨_, rfl⟩
  have HT := hid_intro hT
  have hT12 : T ≤ 11 := by omega
  rw [← hT]
  clear hT s0 s1 s2 hmk' w1 w2
  have hB : w.heap.size < (w.alloc (.cells (fillD (.bool false) T) 4)).drew.heap.size := by show _ < (w.alloc _).heap.size; simp
  have hst : MarksD (w.alloc (.cells (fillD (.bool false) T) 4)).drew w.heap.size T (fun _ => false) := MarksD.made w T 4
  have hkst : Keeps [] w (w.alloc (.cells (fillD (.bool false) T) 4)).drew := ((Keeps.refl _ _).alloc _).drew
  obtain ⟨W0, hW0⟩ : ∃ W0, W0 = (w.alloc (.cells (fillD (.bool false) T) 4)).drew := ⟨_, rfl⟩
  rw [← hW0] at hB hst hkst ⊢
  clear hW0
  have HST := hid_intro hst
  clear hst
  go_wp2_with fail
  go_loopw [22] (fun x wr => ∃ j : Nat, j ≤ T ∧ x = .int .i64 j ∧ MarksD wr w.heap.size T (fun i => if i < j then freeB L (i : Int) else false) ∧ w.heap.size < wr.heap.size ∧ Keeps [] w wr) (fun x _ => T - (intOf x).toNat)
  case atStart =>
    exact ⟨0, by omega, rfl, HST.out.congr (fun i hi => by simp), hB, hkst⟩
  case round =>
    clear HST hB hkst
    obtain ⟨j, hj, rfl, hm, hlt2, hk⟩ := hrel
    have c1 := hk.cell HM.out.c1 (by simp)
    have c2 := hk.cell HM.out.c2 (by simp)
    by_cases hjl : j < T
    · have hj0 : (0 : Int) ≤ (j : Int) := by omega
      have hj1 : (j : Int) < (T : Int) := by omega
      have d0 := (hm j hjl).1
      have d1 := (hm j hjl).2
      have HMM := hid_intro hm
      have HGo : Hid (∀ b : Bool, freeB L (j : Int) = b → MarksD (wr.setCell ⟨w.heap.size, j, none⟩ (.bool b)) w.heap.size T (fun i => if i < j + 1 then freeB L (i : Int) else false)) := by
        intro b hb
        refine (HMM.out.set j b).congr (fun i hi => ?_)
        by_cases e : i = j
        · subst e; simp [hb]
        · have : (i < j + 1) = (i < j) := by rw [eq_iff_iff]; omega
          simp [e, this]
      clear hm
      by_cases hjL : j < L
      · have q1 : decide ((j : Int) < (L : Int)) = true := by simp; omega
        have hfr := hid_intro (show freeB L (j : Int) = true by unfold freeB; rw [q1]; rfl)
        have hjL2 : (j : Int) < (L : Int) := by omega
        go_wp2_with fail
        exact ⟨⟨j + 1, by omega, by go_num, HGo.out _ hfr.out, by simpa using hlt2, hk.setCell _ (Or.inr (by simp)) _⟩, by simp [intOf]; omega⟩
      · have q1 : decide ((j : Int) < (L : Int)) = false := by simp; omega
        have hjL2 : ¬ (j : Int) < (L : Int) := by omega
        by_cases hj2 : 2 * L ≤ j
        · have q2 : decide (2 * (L : Int) ≤ (j : Int)) = true := by simp; omega
          have hfr := hid_intro (show freeB L (j : Int) = true by unfold freeB; rw [q1, Bool.false_or]; simp; omega)
          go_wp2_with fail
          exact ⟨⟨j + 1, by omega, by go_num, HGo.out _ hfr.out, by simpa using hlt2, hk.setCell _ (Or.inr (by simp)) _⟩, by simp [intOf]; omega⟩
        · have q2 : decide (2 * (L : Int) ≤ (j : Int)) = false := by simp; omega
          have hfr := hid_intro (show freeB L (j : Int) = false by unfold freeB; rw [q1, Bool.false_or]; simp; omega)
          go_wp2_with fail
          exact ⟨⟨j + 1, by omega, by go_num, HGo.out _ hfr.out, by simpa using hlt2, hk.setCell _ (Or.inr (by simp)) _⟩, by simp [intOf]; omega⟩
    · obtain rfl : j = T := by omega
      have HMM := hid_intro (hm.congr (g := fun i => freeB L (i : Int)) (fun i hi => by simp [hi]))
      clear hm
      obtain ⟨wq, hwq⟩ : ∃ wq, wq = wr := ⟨_, rfl⟩
      rw [← hwq] at HMM hlt2 hk c1 c2 ⊢
      clear hwq
      go_wp2_with fail
      obtain ⟨b1, b2, b3⟩ := HM.out.blocks
      have hmq : Mk wq.drew m t bn bm L I K N := HM.out.keeps (S := []) hk.drew (by simp) (by simp) (by simp) (by simp)
      have hoff : m ∉ [t, bn, bm] := HM.out.off
      have HOff := hid_intro hoff
      have hwS : w.heap.size ∉ [t, bn, bm] := by simp; omega
      have HwS := hid_intro hwS
      have HMQ := hid_intro hmq
      have s4 : wq.drew.cell? ⟨m, 4, none⟩ = some (.int .i64 s) := hk.drew.cell HC4.out (by simp)
      have S4 := hid_intro s4
      have s0 : wq.drew.cell? ⟨m, 0, none⟩ = some (.pointer (some ⟨t, 0, none⟩)) ∧ wq.drew.cell? ⟨m, 4, none⟩ = some (.int .i64 s) := ⟨hmq.c0, s4⟩
      have hBig : K + 5000000 ≤ Big := hK
      clear hmq hoff hwS s4 c1 c2
      go_region_held3 (fun w' => w'.cell? ⟨m, 0, none⟩ = some (.pointer (some ⟨t, 0, none⟩)) ∧ w'.cell? ⟨m, 4, none⟩ = some (.int .i64 s))
        (first | exact s0 | exact s1 | exact s2 | assumption)
        (first
          | (go_at_call 34; refine (and_any HMQ.out HV.out HS.out ?z1).mono ?_; (case z1 => omega); rintro e w1 ⟨r1, N1, rfl, g1, g2, g3, g4⟩; have s1 := And.intro g1.c0 (g4.cell S4.out HOff.out))
          | (go_at_call 136; refine (mexists (fr := freeB L) g1 g3 HT.out ?z1 ?z2 HwS.out ?z3).mono ?_; (case z1 => exact HMM.out.keeps (w := wq.drew) g4 hlt2 HwS.out); (case z2 => exact Nat.lt_of_lt_of_le hlt2 g4.size); (case z3 => omega); rintro e w2 ⟨r2, N2, rfl, g5, g6, g7, g8⟩; have s2 := And.intro g5.c0 (g8.cell (g4.cell S4.out HOff.out) HOff.out)))
      obtain ⟨K2, hK2, g5'⟩ : ∃ K2, K2 ≤ K + 4300000 ∧ Mk w2 m t bn bm L I K2 N2 := ⟨_, by omega, g5⟩
      have G5 := hid_intro g5'
      have G7 := hid_intro g7
      have GE := hid_intro (g2.trans g6)
      have hk2 : Keeps [t, bn, bm] w w2 := ((hk.drew.mono (by simp)).trans g4).trans g8
      have c1 := g5.c1
      clear g1 g2 g3 g5 g5' g6 g7 g4 g8 s0 s1 s2 HMQ S4 HMM HC4
      go_wp2_with fail
      go_loopw [7, 61] (fun y x wr => ∃ (k KK : Nat) (r : Int) (N' : Tab), k ≤ L ∧ x = .int .i64 k ∧ y = .int .i64 r ∧ Mk wr m t bn bm L I KK N' ∧ KK ≤ K + 4300000 + k * 40000 ∧ Ext N N' ∧ Val N' r (fun a => exF (freeB L) (fun b => F b && G b) (swapK L k a)) ∧ Keeps [t, bn, bm] w wr) (fun _ x _ => L - (intOf x).toNat)
      case atStart =>
        exact ⟨0, K2, r2, N2, by omega, rfl, rfl, G5.out, by omega, GE.out, G7.out, hk2⟩
      case round =>
        obtain ⟨k, KK, r, N', hkL, rfl, rfl, hm, hKK, hext, hval, hk3⟩ := hrel
        by_cases hkl : k < L
        · have hk0 : (0 : Int) ≤ (k : Int) := by omega
          have hk1 : (k : Int) < (L : Int) := by omega
          have hmd : Mk wr.drew m t bn bm L I KK N' := hm.keeps (S := []) (Keeps.refl [] wr).drew (by simp) (by simp) (by simp) (by simp)
          have s0 : wr.drew.cell? ⟨m, 0, none⟩ = some (.pointer (some ⟨t, 0, none⟩)) ∧ wr.drew.cell? ⟨m, 1, none⟩ = some (.int .i64 (L : Int)) := ⟨hm.c0, hm.c1⟩
          have HC := hid_intro (mswap hmd (i := (k : Int)) (j := IntKind.i64.wrap ((L : Int) + (k : Int))) hval (by omega) (by omega) (by rw [IntWalk.i64_in _ ⟨by omega, by omega⟩]; omega) (by rw [IntWalk.i64_in _ ⟨by omega, by omega⟩]; omega) (by omega))
          have HE := hid_intro hext
          clear hm hmd hext hval c1
          go_wp2_with fail
          go_region_held3 (fun w' => w'.cell? ⟨m, 0, none⟩ = some (.pointer (some ⟨t, 0, none⟩)) ∧ w'.cell? ⟨m, 1, none⟩ = some (.int .i64 (L : Int)))
            (first | exact s0 | exact s1 | assumption)
            (first
              | (go_at_call 137; refine Calls.mono HC.out ?_; rintro e w4 ⟨r4, N4, rfl, g1, g2, g3, g4⟩; have s1 := And.intro g1.c0 g1.c1))
          have G1 := hid_intro g1
          have G2 := hid_intro g2
          have G3 := hid_intro g3
          clear g1 g2 g3 s0 s1 HC
          go_wp2_with fail
          refine ⟨⟨k + 1, KK + 40000, r4, N4, by omega, by go_num, rfl, G1.out, by omega, HE.out.trans G2.out, ⟨G3.out.1, fun a => ?_⟩, hk3.trans (((Keeps.refl _ wr).drew).trans g4)⟩, by simp [intOf]; omega⟩
          rw [G3.out.2, IntWalk.i64_in _ ⟨by omega, by omega⟩]
          show exF (freeB L) (fun b => F b && G b) (swapK L k (swapA a (k : Int) ((L : Int) + (k : Int)))) = exF (freeB L) (fun b => F b && G b) (swapK L k (swapA a (k : Int) ((L + k : Nat) : Int)))
          rw [Int.natCast_add]
        · obtain rfl : k = L := by omega
          have H1 := hid_intro hm
          have H2 := hid_intro hext
          have H3 := hid_intro hval
          clear hm hext hval
          go_wp2_with fail
          go_ret
          exact ⟨r, N', rfl, H1.out.mono (by omega), H2.out, H3.out, hk3⟩

end Go.Proofs.YtmgjegokkbghlaaGreatDoor
