/- The document's store: Variable. -/
import Derived.Test.YtmgjegokkbghlaaGreatRefMake4
namespace Go.Proofs.YtmgjegokkbghlaaGreat
open Go.RowKit Go.Maps Bdd
attribute [local go_sem ↓] Go.wp_at_zero Go.wp_at_succ

set_option maxRecDepth 100000 in
theorem risvar_yes {w : World} {r n : Nat} (hc : w.cell? ⟨r, 0, none⟩ = some (.int .i64 (n : Int))) {v : Nat} (hv : v < n) : Calls Tryz.prog 87 #[.pointer (some ⟨r, 0, none⟩), .int .i64 (v : Int)] w fun e w' => e = .returned (.bool true) ∧ w = w' := by
  have h0 : (0 : Int) ≤ (v : Int) := by omega
  have h1 : (v : Int) < (n : Int) := by omega
  go_enter Tryz.func87, Tryz.ntmps87
  go_wp2_with fail
  go_ret
  exact ⟨by first | (simp; done) | (simp; omega) | rfl, rfl⟩
set_option maxRecDepth 100000 in
theorem risvar_no {w : World} {r n : Nat} (hc : w.cell? ⟨r, 0, none⟩ = some (.int .i64 (n : Int))) {v : Int} (hv : v < 0 ∨ (n : Int) ≤ v) : Calls Tryz.prog 87 #[.pointer (some ⟨r, 0, none⟩), .int .i64 v] w fun e w' => e = .returned (.bool false) ∧ w = w' := by
  by_cases h0 : v < 0
  · go_enter Tryz.func87, Tryz.ntmps87
    go_wp2_with fail
    go_ret
    exact ⟨by first | (simp; done) | (simp; omega) | rfl, rfl⟩
  · have h1 : (n : Int) ≤ v := by omega
    have h0' : 0 ≤ v := by omega
    go_enter Tryz.func87, Tryz.ntmps87
    go_wp2_with fail
    go_ret
    exact ⟨by first | (simp; done) | (simp; omega) | rfl, rfl⟩

set_option maxRecDepth 100000 in
set_option maxHeartbeats 1000000 in
theorem rvariable_any {w : World} {r n : Nat} (hn8 : n ≤ 8) (hc : w.cell? ⟨r, 0, none⟩ = some (.int .i64 (n : Int))) {v : Nat} (hv : v < n) {R : Int → Int → World → Prop} (hh : HoldsR w r (txt n (fun a => a (v : Int))) R) :
    Calls Tryz.prog 33 #[.pointer (some ⟨r, 0, none⟩), .int .i64 (v : Int)] w fun e w' => ∃ x y, e = .returned (.tuple #[.int .i64 x, .int .i64 y]) ∧ R x y w' := by
  obtain ⟨i5, hi5, hz0, hz1, hz2⟩ := info_parts infoByte
  have h256 : 2 ^ n ≤ 256 := by
    have : 2 ^ n ≤ 2 ^ 8 := Nat.pow_le_pow_right (by omega) hn8
    omega
  have HMB : Hid (∀ w : World, (Instr.makeSlice 111 (.int .i64 ((2 ^ n : Nat) : Int)) (.int .i64 ((2 ^ n : Nat) : Int))).run Tryz.prog w = .ok (.slice (some ⟨w.heap.size, 0, none⟩) (2 ^ n) (2 ^ n)) (w.alloc (.cells (fillV (.int .u8 0) (2 ^ n)) 5))) := make_bytes hi5 hz0 hz1 hz2 h256
  have HH : Hid (HoldsR w r (txt n (fun a => a (v : Int))) R) := hh
  clear hh hi5 hz0 hz1 hz2
  go_enter Tryz.func33, Tryz.ntmps33
  obtain ⟨P, hP⟩ : ∃ P : Nat, P = 2 ^ n := ⟨_, rfl⟩
  have hsz := rsize_any (w := w) hn8 hc
  rw [← hP] at HMB h256 hsz
  have HPP : Hid (P = 2 ^ n) := hP
  have hP0 : (0 : Int) ≤ (P : Int) := by omega
  have hP1 : (P : Int) ≤ 256 := by omega
  clear hP
  go_wp2_with fail
  refine (risvar_yes hc hv).mono ?_
  rintro e w0 ⟨rfl, rfl⟩
  go_wp2_with fail
  refine hsz.mono ?_
  rintro e w1 ⟨rfl, rfl⟩
  go_wp2_with (first
    | (at_make; refine wpList_make_at rfl _ _ 111 rfl (.int .i64 (P : Int)) (.int .i64 (P : Int)) _ rfl rfl (HMB.out _) ?_)
    | fail)
  obtain ⟨Y, hY⟩ : ∃ Y, Y = w.alloc (Obj.cells (fillV (Value.int .u8 0) P) 5) := ⟨_, rfl⟩
  rw [← hY]
  have hkY : Keeps [] w Y := by rw [hY]; exact (Keeps.refl _ _).alloc _
  have b2 : Bytes8 Y w.heap.size P (fun i => if i < 0 then i.testBit (n - 1 - v) else false) := fun k hk => by
    rw [hY]
    exact ⟨cell_new w _ _ rfl (fillV_get _ hk), World.frozen?_alloc_at _ _ _ _ rfl⟩
  have HB2 : Hid (Bytes8 Y w.heap.size P (fun i => if i < 0 then i.testBit (n - 1 - v) else false)) := b2
  clear hY b2
  go_loopw [8] (fun i wr => ∃ j : Nat, j ≤ P ∧ i = .int .i64 j ∧ Hid (Bytes8 wr w.heap.size P (fun i => if i < j then i.testBit (n - 1 - v) else false)) ∧ Keeps [w.heap.size] Y wr) (fun i _ => P - (intOf i).toNat)
  case atStart => exact ⟨0, by omega, rfl, HB2.out, Keeps.refl _ _⟩
  case round =>
    clear HB2
    obtain ⟨j, hj, rfl, hB, hkr⟩ := hrel
    by_cases hlt : j < P
    · have hj0 : (0 : Int) ≤ (j : Int) := by omega
      have hj1 : (j : Int) < (P : Int) := by omega
      have p1 := (hB.out j hlt).1
      have p2 := (hB.out j hlt).2
      have hB' := hB.out.set (k := j) (f' := fun i => if i < j + 1 then i.testBit (n - 1 - v) else false) (j.testBit (n - 1 - v)) (by simp) (fun i _ hi => by
        by_cases hij : i < j
        · rw [if_pos hij, if_pos (by omega)]
        · rw [if_neg hij, if_neg (by omega)])
      have HB' : Hid (Bytes8 (wr.setCell ⟨w.heap.size, j, none⟩ (.int .u8 (if j.testBit (n - 1 - v) then 1 else 0))) w.heap.size P (fun i => if i < j + 1 then i.testBit (n - 1 - v) else false)) := hB'
      have hcr := hkr.cell (hkY.cell hc (by simp)) (by have hrl : r < w.heap.size := cell_lt (p := ⟨r, 0, none⟩) hc; simp; omega)
      have hbit := rbit_any (w := wr) hn8 hcr (i := j) (v := v) (by rw [← HPP.out]; exact hlt) hv
      clear hB' hB
      cases hb : j.testBit (n - 1 - v) with
      | true =>
        rw [hb] at hbit HB'
        simp only [bI] at hbit
        clear hb
        go_wp2_with (first
          | (go_at_call 88; refine hbit.mono ?_; rintro e w2 ⟨rfl, rfl⟩)
          | fail)
        go_roundw
        case rel => exact ⟨j + 1, by omega, by go_num, HB'.out, hkr.setCell _ (Or.inl (by simp)) _⟩
        case measure => simp [intOf]; omega
      | false =>
        rw [hb] at hbit HB'
        simp only [bI] at hbit
        clear hb
        go_wp2_with (first
          | (go_at_call 88; refine hbit.mono ?_; rintro e w2 ⟨rfl, rfl⟩)
          | fail)
        go_roundw
        case rel => exact ⟨j + 1, by omega, by go_num, HB'.out, hkr.setCell _ (Or.inl (by simp)) _⟩
        case measure => simp [intOf]; omega
    · have ej : j = P := by omega
      subst ej
      have hjj : ¬ (j : Int) < (j : Int) := by omega
      have hconv := (HPP.out ▸ hB.out : Bytes8 wr w.heap.size (2 ^ n) (fun i => if i < 2 ^ n then i.testBit (n - 1 - v) else false)).text (F := fun a => a (v : Int)) (fun i hi => by simp [hi, asgN]) (2 ^ n)
      rw [← HPP.out] at hconv
      have hkw : Keeps [] w wr := ((hkY.mono (by simp)).trans hkr).strike (by simp)
      have hcall := HH.out wr hkw
      clear hB
      go_wp2_with fail
      refine hcall.mono ?_
      rintro e w3 ⟨x, y, rfl, hR⟩
      go_wp2_with fail
      go_ret2
      exact ⟨x, y, rfl, hR⟩

end Go.Proofs.YtmgjegokkbghlaaGreat
