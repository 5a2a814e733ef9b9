/- The document's store: Apply. -/
import Derived.Test.YtmgjegokkbghlaaGreatRefMake3
namespace Go.Proofs.YtmgjegokkbghlaaGreat
open Go.RowKit Go.Maps Bdd
attribute [local go_sem ↓] Go.wp_at_zero Go.wp_at_succ

set_option maxRecDepth 100000 in
set_option maxHeartbeats 4000000 in
theorem rapply_any {w : World} {r n : Nat} {lv : Value} {hs : List (Int × ByteArray)} (hn8 : n ≤ 8) (hc : w.cell? ⟨r, 0, none⟩ = some (.int .i64 (n : Int))) (hh : Held w r lv hs) (hl : hs.length ≤ 60) {what f g : Int} (hw0 : 0 ≤ what) (hw1 : what ≤ 3) {F G : (Int → Bool) → Bool} (hf : HasT n hs f F) (hg : HasT n hs g G) {R : Int → Int → World → Prop} (hhold : HoldsR w r (txt n (fun a => app what (F a) (G a))) R) :
    Calls Tryz.prog 35 #[.pointer (some ⟨r, 0, none⟩), .int .i64 what, .int .i64 f, .int .i64 g] w fun e w' => ∃ x y, e = .returned (.tuple #[.int .i64 x, .int .i64 y]) ∧ R x y w' := by
  obtain ⟨i5, hi5, hz0, hz1, hz2⟩ := info_parts infoByte
  have h256 : 2 ^ n ≤ 256 := by
    have : 2 ^ n ≤ 2 ^ 8 := Nat.pow_le_pow_right (by omega) hn8
    omega
  have HMB : Hid (∀ w : World, (Instr.makeSlice 111 (.int .i64 ((2 ^ n : Nat) : Int)) (.int .i64 ((2 ^ n : Nat) : Int))).run Tryz.prog w = .ok (.slice (some ⟨w.heap.size, 0, none⟩) (2 ^ n) (2 ^ n)) (w.alloc (.cells (fillV (.int .u8 0) (2 ^ n)) 5))) := make_bytes hi5 hz0 hz1 hz2 h256
  have HH : Hid (HoldsR w r (txt n (fun a => app what (F a) (G a))) R) := hhold
  obtain ⟨pf, f1, f2⟩ := hf
  obtain ⟨pg, g1, g2⟩ := hg
  have hof := rof_some (n := n) (F := F) hh hl f1 f2
  have hog := rof_some (n := n) (F := G) hh hl g1 g2
  obtain ⟨P, hP⟩ : ∃ P : Nat, P = 2 ^ n := ⟨_, rfl⟩
  have HI1 := idx_all hP F
  have HI2 := idx_all hP G
  generalize txt n F = S1 at hof HI1
  generalize txt n G = S2 at hog HI2
  have HJ1 : Hid (∀ (i : Nat) (w : World), i < P → (Instr.index 9 (.string S1) (.int .i64 (i : Int))).run Tryz.prog w = .ok (.int .u8 (bI (F (asgN n i)))) w) := HI1
  have HJ2 : Hid (∀ (i : Nat) (w : World), i < P → (Instr.index 9 (.string S2) (.int .i64 (i : Int))).run Tryz.prog w = .ok (.int .u8 (bI (G (asgN n i)))) w) := HI2
  have hsz := rsize_any (w := w) hn8 hc
  rw [← hP] at HMB h256 hsz
  have HPP : Hid (P = 2 ^ n) := hP
  have hP0 : (0 : Int) ≤ (P : Int) := by omega
  have hP1 : (P : Int) ≤ 256 := by omega
  clear hhold hi5 hz0 hz1 hz2 hP f1 f2 g1 g2 hh HI1 HI2
  have hwh : what = 0 ∨ what = 1 ∨ what = 2 ∨ what = 3 := by omega
  obtain ⟨E, hE⟩ : ∃ E : Nat → Bool, E = fun i => app what (F (asgN n i)) (G (asgN n i)) := ⟨_, rfl⟩
  have HEJ : Hid (∀ j, E j = app what (F (asgN n j)) (G (asgN n j))) := by show ∀ j, _; rw [hE]; exact fun _ => rfl
  have HTX : Hid (∀ (wr : World) (B : Nat), Bytes8 wr B (2 ^ n) (fun i => if i < 2 ^ n then E i else false) → (convert 111 9 (.slice (some ⟨B, 0, none⟩) (2 ^ n) (2 ^ n))).run Tryz.prog wr = .ok (.string (txt n (fun a => app what (F a) (G a)))) wr) := fun wr B hB => hB.text (F := fun a => app what (F a) (G a)) (fun i hi => by simp only [hi, if_true, hE]) (2 ^ n)
  clear hE
  rcases hwh with rfl | rfl | rfl | rfl
  all_goals
    go_enter Tryz.func35, Tryz.ntmps35
    go_wp2_with fail
    refine hof.mono ?_
    rintro e w0 ⟨rfl, rfl⟩
    go_wp2_with fail
    refine hog.mono ?_
    rintro e w0 ⟨rfl, rfl⟩
    go_wp2_with fail
    refine hsz.mono ?_
    rintro e w1 ⟨rfl, rfl⟩
    go_wp2_with (first
      | (at_make; refine wpList_make_at rfl _ _ 111 rfl (.int .i64 (P : Int)) (.int .i64 (P : Int)) _ rfl rfl (HMB.out _) ?_)
      | fail)
    obtain ⟨Y, hY⟩ : ∃ Y, Y = w.alloc (Obj.cells (fillV (Value.int .u8 0) P) 5) := ⟨_, rfl⟩
    rw [← hY]
    have hkY : Keeps [] w Y := by rw [hY]; exact (Keeps.refl _ _).alloc _
    have HB2 : Hid (Bytes8 Y w.heap.size P (fun i => if i < 0 then E i else false)) := fun k hk => by
      rw [hY]
      exact ⟨cell_new w _ _ rfl (fillV_get _ hk), World.frozen?_alloc_at _ _ _ _ rfl⟩
    clear hY
    go_loopw [15, 16, 17] (fun i _ _ wr => ∃ j : Nat, j ≤ P ∧ i = .int .i64 j ∧ Hid (Bytes8 wr w.heap.size P (fun i => if i < j then E i else false)) ∧ Keeps [w.heap.size] Y wr) (fun i _ _ _ => P - (intOf i).toNat)
    case atStart => exact ⟨0, by omega, rfl, HB2.out, Keeps.refl _ _⟩
    case round =>
      clear HB2
      obtain ⟨j, hj, rfl, hB, hkr⟩ := hrel
      by_cases hlt : j < P
      · have hj0 : (0 : Int) ≤ (j : Int) := by omega
        have hj1 : (j : Int) < (P : Int) := by omega
        have p1 := (hB.out j hlt).1
        have p2 := (hB.out j hlt).2
        have i1 := fun w => HJ1.out j w hlt
        have i2 := fun w => HJ2.out j w hlt
        have HEj := HEJ.out j
        have HEj' : Hid (E j = _) := HEj
        clear HEj
        have n1 : ∀ x : Bool, E j = x → Bytes8 (wr.setCell ⟨w.heap.size, j, none⟩ (.int .u8 (if x then 1 else 0))) w.heap.size P (fun i => if i < j + 1 then E i else false) := by
          intro x hx
          refine hB.out.set x (by simp [hx]) (fun i hi hne => ?_)
          by_cases hij : i < j
          · rw [if_pos hij, if_pos (by omega)]
          · rw [if_neg hij, if_neg (by omega)]
        have N1 : Hid (∀ x : Bool, E j = x → Bytes8 (wr.setCell ⟨w.heap.size, j, none⟩ (.int .u8 (if x then 1 else 0))) w.heap.size P (fun i => if i < j + 1 then E i else false)) := n1
        clear hB n1
        generalize F (asgN n j) = bf at *
        generalize G (asgN n j) = bg at *
        cases bf <;> cases bg <;> simp only [bI] at i1 i2
        all_goals
          go_wp2_with (first
            | (go_at_call 85; refine (rtruth_any _).mono ?_; rintro e w2 ⟨rfl, rfl⟩)
            | fail)
          go_roundw
          case rel =>
            refine ⟨j + 1, by omega, by go_num, ?_, hkr.setCell _ (Or.inl (by simp)) _⟩
            first
              | exact N1.out false HEj'.out
              | exact N1.out true HEj'.out
          case measure => simp [intOf]; omega
      · have ej : j = P := by omega
        subst ej
        have hjj : ¬ (j : Int) < (j : Int) := by omega
        have hconv := HTX.out wr w.heap.size (HPP.out ▸ hB.out)
        rw [← HPP.out] at hconv
        have hkw : Keeps [] w wr := ((hkY.mono (by simp)).trans hkr).strike (by simp)
        have hcall := HH.out wr hkw
        clear hB
        go_wp2_with fail
        refine hcall.mono ?_
        rintro e w3 ⟨x, y, rfl, hR⟩
        go_wp2_with fail
        go_ret2
        exact ⟨x, y, rfl, hR⟩

end Go.Proofs.YtmgjegokkbghlaaGreat
