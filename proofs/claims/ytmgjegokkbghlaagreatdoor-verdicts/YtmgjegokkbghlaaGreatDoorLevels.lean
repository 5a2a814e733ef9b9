/- levels: the level of each name. -/
import Derived.Test.YtmgjegokkbghlaaGreatDoorStarts
namespace Go.Proofs.YtmgjegokkbghlaaGreatDoor
open Go.RowKit Go.Maps Bdd Circ Gram
set_option linter.unusedVariables false

/-- a map that was written pair by pair -/
def pairF (l : List (W × Int)) (n : W) : Option Int := l.foldl (fun k p => if p.1 = n then some p.2 else k) none
theorem pairF_add (l : List (W × Int)) (p : W × Int) (n : W) : pairF (l ++ [p]) n = if p.1 = n then some p.2 else pairF l n := by
  simp [pairF, List.foldl_append]
def pairG (l : List (W × Int)) (v : Value) : Option Value := match v with
  | .string n => (pairF l n).map fun (i : Int) => Value.int .i64 i
  | _ => none
theorem pairG_nil (v : Value) : pairG [] v = none := by cases v <;> rfl
theorem pairG_set (l : List (W × Int)) (n : W) (k : Int) (v : Value) : setG (pairG l) (.string n) (some (.int .i64 k)) v = pairG (l ++ [(n, k)]) v := by
  by_cases e : v = .string n
  · subst e
    rw [setG_same]
    simp [pairG, pairF_add]
  · rw [setG_other _ _ e]
    cases v with
    | string x =>
      have hn : ¬ n = x := fun hh => e (by rw [hh])
      simp [pairG, pairF_add, hn]
    | _ => rfl
def levA (ls : List Ln) (j : Nat) : List (W × Int) := (List.range j).map fun k => ((nth (latches ls) k).name, (k : Int))
def levB (ls : List Ln) (L i : Nat) : List (W × Int) := (List.range i).map fun k => ((named 1 ls).getD k emp, 2 * (L : Int) + (k : Int))
theorem levA_succ (ls : List Ln) (j : Nat) : levA ls (j + 1) = levA ls j ++ [((nth (latches ls) j).name, (j : Int))] := by simp [levA, List.range_succ]
theorem levB_succ (ls : List Ln) (L i : Nat) : levB ls L (i + 1) = levB ls L i ++ [((named 1 ls).getD i emp, 2 * (L : Int) + (i : Int))] := by simp [levB, List.range_succ]
/-- the levels of a circuit's names -/
def levL (ls : List Ln) : List (W × Int) := levA ls (latches ls).length ++ levB ls (latches ls).length (named 1 ls).length

set_option maxRecDepth 100000 in
set_option maxHeartbeats 1000000 in
theorem levels_any {w : World} {m t bn bm L I K : Nat} {N : Tab} (h : Mk w m t bn bm L I K N) {ls : List Ln} {a0 : Option Addr} {n0 m0 : Nat} {a1 : Option Addr} {m1 : Nat} {a2 : Option Addr} {n2 m2 : Nat} (hc : CirAt w ls (.slice a0 n0 m0) a1 (.slice a2 n2 m2)) (hL : L = (latches ls).length) (hI : I = (named 1 ls).length) (hs1 : ∀ x ∈ latches ls, ByteArray.size x.name ≤ 1000) (hs2 : ∀ x ∈ named 1 ls, ByteArray.size x ≤ 1000) :
    Calls Tryz.prog 33 #[.pointer (some ⟨m, 0, none⟩), .agg #[.slice a0 n0 m0, .slice a1 L m1, .slice a2 n2 m2]] w fun e w' => ∃ M n, e = .returned (.map (some M)) ∧ w.heap.size ≤ M ∧ MapIs w' Tryz.prog 9 M n (pairG (levL ls)) ∧ Keeps [] w w' := by
  have hmm := @run_makeMap Tryz.prog
  have hml : 2000000 < maxLen := by decide
  have hL4 := h.hL
  have hI3 := h.hI
  have hlt := h.lt
  obtain ⟨a0', c0', e0, hcap0, hmx0, hcell0⟩ := hc.ins
  obtain ⟨rfl, hn0, rfl⟩ : a0 = a0' ∧ n0 = (named 1 ls).length ∧ m0 = c0' := by simpa using e0
  rw [← hI] at hn0
  have hn0 := hn0.symm
  subst hn0
  have HM := hid_intro h
  have HC := hid_intro hc
  have HC0 := hid_intro hcell0
  have HL := hid_intro hL
  have HI := hid_intro hI
  have HS1 := hid_intro hs1
  have HS2 := hid_intro hs2
  rw [← hI] at hcap0
  clear h hc hcell0 e0 hL hI hs1 hs2
  go_enter Tryz.func33, Tryz.ntmps33
  go_wp2_with fail
  have hst : (((w.alloc (.cells #[.slice a0 I m0, .slice a1 L m1, .slice a2 n2 m2] 52)).alloc (.map #[] 0))).cell? ⟨w.heap.size, 0, none⟩ = some (.slice a0 I m0) := ((Keeps.refl [] _).alloc _).cell (by rw [World.cell?_alloc_at _ _ _ _ rfl]; rfl) (by simp)
  have hmade := (MapIs.made (w.alloc (.cells #[.slice a0 I m0, .slice a1 L m1, .slice a2 n2 m2] 52)) Tryz.prog 9).congr (G' := pairG (levA ls 0)) (fun x _ _ => by simp [levA, pairG_nil])
  rw [World.size_alloc] at hmade
  have HMade := hid_intro hmade
  have HSt := hid_intro hst
  clear hmade hst
  obtain ⟨M, hM⟩ : ∃ M, M = w.heap.size + 1 := ⟨_, rfl⟩
  have HMM := hid_intro hM
  rw [← hM] at HMade ⊢
  clear hM
  go_loopw [14] (fun x wr => ∃ j n : Nat, j ≤ L ∧ x = .int .i64 j ∧ MapIs wr Tryz.prog 9 M n (pairG (levA ls j)) ∧ n ≤ j ∧ wr.cell? ⟨w.heap.size, 0, none⟩ = some (.slice a0 I m0) ∧ Keeps [] w wr) (fun x _ => L - (intOf x).toNat)
  case atStart =>
    exact ⟨0, 0, by omega, rfl, HMade.out, by omega, HSt.out, ((Keeps.refl _ _).alloc _).alloc _⟩
  case round =>
    clear HMade HSt
    obtain ⟨j, n, hj, rfl, hm, hn, hbx, hk⟩ := hrel
    by_cases hjl : j < L
    · have hj0 : (0 : Int) ≤ (j : Int) := by omega
      have hj1 : (j : Int) < (L : Int) := by omega
      have hjl2 : j < (latches ls).length := by rw [← HL.out]; exact hjl
      obtain ⟨b, a, nn, c, ha, hb, z0, z1, z2, _⟩ := HC.out.lat j hjl2
      have e0 := hk.cell z0 (by simp)
      have e1 := hk.cell z1 (by simp)
      have e2 := hk.cell z2 (by simp)
      have hkey := keyStr (HS1.out _ (List.getElem_mem hjl2))
      have hsu := levA_succ ls j
      rw [nth_eq hjl2] at hsu
      obtain ⟨x, hx⟩ : ∃ x, x = (latches ls)[j] := ⟨_, rfl⟩
      rw [← hx] at e0 e1 hkey hsu
      have HSU := hid_intro hsu
      have hlw : M < wr.heap.size := hm.lt
      obtain ⟨w4, hr4, hm4, hg4⟩ := (hm.alloc (.cells #[.string x.name, .string x.first, .slice a nn c] 94)).update lawStr Tryz.underlying91 (by omega) hkey (.int .i64 (j : Int))
      have HM4 := hid_intro hm4
      have HG4 := hid_intro hg4
      have HBX := hid_intro hbx
      have HA := hid_intro ha
      subst ha
      clear hx hsu hm hm4 hg4 hkey z0 z1 z2 hbx
      go_wp2_with fail
      have hkm : Keeps [M] wr w4 := ((Keeps.refl _ _).alloc _).grown HG4.out (fun k e => Or.inl (by cases e; simp))
      refine ⟨⟨j + 1, _, by omega, by go_num, (by rw [HSU.out]; exact HM4.out.congr (fun v _ _ => pairG_set _ _ _ v)), by split <;> omega, hkm.cell HBX.out (by have := HMM.out; simp; omega), ((hk.mono (by simp)).trans hkm).strike (fun i hi hlt => by have := HMM.out; simp at hi; omega)⟩, by simp [intOf]; omega⟩
    · obtain rfl : j = L := by omega
      have HMp := hid_intro hm
      have HBX := hid_intro hbx
      have hlw : M < wr.heap.size := hm.lt
      obtain ⟨wq, hwq⟩ : ∃ wq, wq = wr := ⟨_, rfl⟩
      rw [← hwq] at HMp HBX hbx hk hlw ⊢
      clear hwq hm
      go_wp2_with fail
      clear hbx
      go_loopw [27] (fun x wr => ∃ i n : Nat, i ≤ I ∧ x = .int .i64 i ∧ MapIs wr Tryz.prog 9 M n (pairG (levA ls j ++ levB ls j i)) ∧ n ≤ j + i ∧ Keeps [] w wr) (fun x _ => I - (intOf x).toNat)
      case atStart => exact ⟨0, n, by omega, rfl, by simpa [levB] using HMp.out, by omega, hk⟩
      case round =>
        clear HMp HBX hk hlw
        obtain ⟨i, n', hi, rfl, hm, hn', hk⟩ := hrel
        have hlw : M < wr.heap.size := hm.lt
        by_cases hil : i < I
        · have hi0 : (0 : Int) ≤ (i : Int) := by omega
          have hi1 : (i : Int) < (I : Int) := by omega
          have hil2 : i < (named 1 ls).length := by rw [← HI.out]; exact hil
          obtain ⟨b, o, ha, _, hb, z0⟩ := HC0.out i hil2
          have e0 := hk.cell z0 (by simp)
          have c1 := hk.cell HM.out.c1 (by simp)
          have hkey := keyStr (HS2.out _ (List.getElem_mem hil2))
          have hsu := levB_succ ls j i
          have hgd : (named 1 ls).getD i emp = (named 1 ls)[i] := by simp [List.getD, hil2]
          rw [hgd] at hsu
          obtain ⟨x, hx⟩ : ∃ x, x = (named 1 ls)[i] := ⟨_, rfl⟩
          rw [← hx] at e0 hkey hsu
          have HSU := hid_intro hsu
          obtain ⟨w4, hr4, hm4, hg4⟩ := hm.update lawStr Tryz.underlying91 (by omega) hkey (.int .i64 (2 * (j : Int) + (i : Int)))
          have HM4 := hid_intro hm4
          have HG4 := hid_intro hg4
          have HA := hid_intro ha
          subst ha
          clear hx hsu hm hm4 hg4 hkey z0 hgd
          go_wp2_with fail
          have hkm : Keeps [M] wr w4 := (Keeps.refl _ _).grown HG4.out (fun k e => Or.inl (by cases e; simp))
          refine ⟨⟨i + 1, _, by omega, by go_num, (by rw [HSU.out, ← List.append_assoc]; exact HM4.out.congr (fun v _ _ => pairG_set _ _ _ v)), by split <;> omega, ((hk.mono (by simp)).trans hkm).strike (fun i hi hlt => by have := HMM.out; simp at hi; omega)⟩, by simp [intOf]; omega⟩
        · obtain rfl : i = I := by omega
          have HMp := hid_intro hm
          clear hm
          go_wp2_with fail
          go_ret
          refine ⟨M, n', rfl, by have := HMM.out; omega, ?_, hk⟩
          have := HMp.out
          unfold levL
          rw [← HL.out, ← HI.out]
          exact this

end Go.Proofs.YtmgjegokkbghlaaGreatDoor
