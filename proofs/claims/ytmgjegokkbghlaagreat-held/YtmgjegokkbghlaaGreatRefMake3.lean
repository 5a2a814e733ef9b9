/- The document's store: Choose. -/
import Derived.Test.YtmgjegokkbghlaaGreatRefMake2
namespace Go.Proofs.YtmgjegokkbghlaaGreat
open Go.RowKit Go.Maps Bdd
attribute [local go_sem ↓] Go.wp_at_zero Go.wp_at_succ

/-- a function that is held, by its text -/
def HasT (n : Nat) (hs : List (Int × ByteArray)) (f : Int) (F : (Int → Bool) → Bool) : Prop := ∃ p, hs.find? (fun p => p.1 == f) = some p ∧ p.2 = txt n F
theorem idx_all {n P : Nat} (hP : P = 2 ^ n) (F : (Int → Bool) → Bool) : ∀ (i : Nat) (w : World), i < P → (Instr.index 9 (.string (txt n F)) (.int .i64 (i : Int))).run Tryz.prog w = .ok (.int .u8 (bI (F (asgN n i)))) w := fun i w hi => txt_index F (by omega) w

set_option maxRecDepth 100000 in
set_option maxHeartbeats 4000000 in
theorem rchoose_any {w : World} {r n : Nat} {lv : Value} {hs : List (Int × ByteArray)} (hn8 : n ≤ 8) (hc : w.cell? ⟨r, 0, none⟩ = some (.int .i64 (n : Int))) (hh : Held w r lv hs) (hl : hs.length ≤ 60) {f g h : Int} {F G K : (Int → Bool) → Bool} (hf : HasT n hs f F) (hg : HasT n hs g G) (hk : HasT n hs h K) {R : Int → Int → World → Prop} (hhold : HoldsR w r (txt n (fun a => if F a then G a else K a)) R) :
    Calls Tryz.prog 36 #[.pointer (some ⟨r, 0, none⟩), .int .i64 f, .int .i64 g, .int .i64 h] w fun e w' => ∃ x y, e = .returned (.tuple #[.int .i64 x, .int .i64 y]) ∧ R x y w' := by
  obtain ⟨i5, hi5, hz0, hz1, hz2⟩ := info_parts infoByte
  have h256 : 2 ^ n ≤ 256 := by
    have : 2 ^ n ≤ 2 ^ 8 := Nat.pow_le_pow_right (by omega) hn8
    omega
  have HMB : Hid (∀ w : World, (Instr.makeSlice 111 (.int .i64 ((2 ^ n : Nat) : Int)) (.int .i64 ((2 ^ n : Nat) : Int))).run Tryz.prog w = .ok (.slice (some ⟨w.heap.size, 0, none⟩) (2 ^ n) (2 ^ n)) (w.alloc (.cells (fillV (.int .u8 0) (2 ^ n)) 5))) := make_bytes hi5 hz0 hz1 hz2 h256
  have HH : Hid (HoldsR w r (txt n (fun a => if F a then G a else K a)) R) := hhold
  obtain ⟨pf, f1, f2⟩ := hf
  obtain ⟨pg, g1, g2⟩ := hg
  obtain ⟨ph, k1, k2⟩ := hk
  have hof := rof_some (n := n) (F := F) hh hl f1 f2
  have hog := rof_some (n := n) (F := G) hh hl g1 g2
  have hok := rof_some (n := n) (F := K) hh hl k1 k2
  obtain ⟨P, hP⟩ : ∃ P : Nat, P = 2 ^ n := ⟨_, rfl⟩
  have HI1 := idx_all hP F
  have HI2 := idx_all hP G
  have HI3 := idx_all hP K
  generalize txt n F = S1 at hof HI1
  generalize txt n G = S2 at hog HI2
  generalize txt n K = S3 at hok HI3
  have HJ1 : Hid (∀ (i : Nat) (w : World), i < P → (Instr.index 9 (.string S1) (.int .i64 (i : Int))).run Tryz.prog w = .ok (.int .u8 (bI (F (asgN n i)))) w) := HI1
  have HJ2 : Hid (∀ (i : Nat) (w : World), i < P → (Instr.index 9 (.string S2) (.int .i64 (i : Int))).run Tryz.prog w = .ok (.int .u8 (bI (G (asgN n i)))) w) := HI2
  have HJ3 : Hid (∀ (i : Nat) (w : World), i < P → (Instr.index 9 (.string S3) (.int .i64 (i : Int))).run Tryz.prog w = .ok (.int .u8 (bI (K (asgN n i)))) w) := HI3
  have hsz := rsize_any (w := w) hn8 hc
  rw [← hP] at HMB h256 hsz
  have HPP : Hid (P = 2 ^ n) := hP
  have hP0 : (0 : Int) ≤ (P : Int) := by omega
  have hP1 : (P : Int) ≤ 256 := by omega
  clear hhold hi5 hz0 hz1 hz2 hP f1 f2 g1 g2 k1 k2 hh HI1 HI2 HI3
  go_enter Tryz.func36, Tryz.ntmps36
  go_wp2_with fail
  refine hof.mono ?_
  rintro e w0 ⟨rfl, rfl⟩
  go_wp2_with fail
  refine hog.mono ?_
  rintro e w0 ⟨rfl, rfl⟩
  go_wp2_with fail
  refine hok.mono ?_
  rintro e w0 ⟨rfl, rfl⟩
  go_wp2_with fail
  refine hsz.mono ?_
  rintro e w1 ⟨rfl, rfl⟩
  go_wp2_with (first
    | (at_make; refine wpList_make_at rfl _ _ 111 rfl (.int .i64 (P : Int)) (.int .i64 (P : Int)) _ rfl rfl (HMB.out _) ?_)
    | fail)
  obtain ⟨Y, hY⟩ : ∃ Y, Y = w.alloc (Obj.cells (fillV (Value.int .u8 0) P) 5) := ⟨_, rfl⟩
  rw [← hY]
  have hkY : Keeps [] w Y := by rw [hY]; exact (Keeps.refl _ _).alloc _
  obtain ⟨E, hE⟩ : ∃ E : Nat → Bool, E = fun i => if F (asgN n i) then G (asgN n i) else K (asgN n i) := ⟨_, rfl⟩
  have HB2 : Hid (Bytes8 Y w.heap.size P (fun i => if i < 0 then E i else false)) := fun k hk => by
    rw [hY]
    exact ⟨cell_new w _ _ rfl (fillV_get _ hk), World.frozen?_alloc_at _ _ _ _ rfl⟩
  have HE : Hid (E = fun i => if F (asgN n i) then G (asgN n i) else K (asgN n i)) := hE
  clear hY hE
  go_loopw [17] (fun i wr => ∃ j : Nat, j ≤ P ∧ i = .int .i64 j ∧ Hid (Bytes8 wr w.heap.size P (fun i => if i < j then E i else false)) ∧ Keeps [w.heap.size] Y wr) (fun i _ => P - (intOf i).toNat)
  case atStart => exact ⟨0, by omega, rfl, HB2.out, Keeps.refl _ _⟩
  case round =>
    clear HB2
    obtain ⟨j, hj, rfl, hB, hkr⟩ := hrel
    by_cases hlt : j < P
    · have hj0 : (0 : Int) ≤ (j : Int) := by omega
      have hj1 : (j : Int) < (P : Int) := by omega
      have p1 := (hB.out j hlt).1
      have p2 := (hB.out j hlt).2
      have p3 : ∀ u, (wr.setCell ⟨w.heap.size, j, none⟩ u).cell? ⟨w.heap.size, j, none⟩ = some u := fun u => World.cell?_setCell_same _ _ _ p1
      have i1 := fun w => HJ1.out j w hlt
      have i2 := fun w => HJ2.out j w hlt
      have i3 := fun w => HJ3.out j w hlt
      have hEj : E j = if F (asgN n j) then G (asgN n j) else K (asgN n j) := by rw [HE.out]
      have next : ∀ (w1 : World) (f1 : Nat → Bool) (x : Bool), Bytes8 w1 w.heap.size P f1 → (∀ i, i < P → i ≠ j → f1 i = if i < j then E i else false) → E j = x → Bytes8 (w1.setCell ⟨w.heap.size, j, none⟩ (.int .u8 (if x then 1 else 0))) w.heap.size P (fun i => if i < j + 1 then E i else false) := by
        intro w1 f1 x h1 h2 h3
        refine h1.set x (by simp [h3]) (fun i hi hne => ?_)
        rw [h2 i hi hne]
        by_cases hij : i < j
        · rw [if_pos hij, if_pos (by omega)]
        · rw [if_neg hij, if_neg (by omega)]
      have mid : ∀ x : Bool, Bytes8 (wr.setCell ⟨w.heap.size, j, none⟩ (.int .u8 (if x then 1 else 0))) w.heap.size P (fun i => if i = j then x else if i < j then E i else false) := fun x => hB.out.set x (by simp) (fun i _ hne => by simp [hne])
      have n1 : ∀ x : Bool, E j = x → Bytes8 (wr.setCell ⟨w.heap.size, j, none⟩ (.int .u8 (if x then 1 else 0))) w.heap.size P (fun i => if i < j + 1 then E i else false) := fun x hx => next wr _ x hB.out (fun i _ _ => rfl) hx
      have n2 : ∀ x y : Bool, E j = y → Bytes8 ((wr.setCell ⟨w.heap.size, j, none⟩ (.int .u8 (if x then 1 else 0))).setCell ⟨w.heap.size, j, none⟩ (.int .u8 (if y then 1 else 0))) w.heap.size P (fun i => if i < j + 1 then E i else false) := fun x y hy => next _ _ y (mid x) (fun i _ hne => by simp [hne]) hy
      have N1 : Hid (∀ x : Bool, E j = x → Bytes8 (wr.setCell ⟨w.heap.size, j, none⟩ (.int .u8 (if x then 1 else 0))) w.heap.size P (fun i => if i < j + 1 then E i else false)) := n1
      have N2 : Hid (∀ x y : Bool, E j = y → Bytes8 ((wr.setCell ⟨w.heap.size, j, none⟩ (.int .u8 (if x then 1 else 0))).setCell ⟨w.heap.size, j, none⟩ (.int .u8 (if y then 1 else 0))) w.heap.size P (fun i => if i < j + 1 then E i else false)) := n2
      have HEj : Hid (E j = if F (asgN n j) then G (asgN n j) else K (asgN n j)) := hEj
      clear hB next mid n1 n2 hEj
      generalize F (asgN n j) = bf at *
      generalize G (asgN n j) = bg at *
      generalize K (asgN n j) = bk at *
      cases bf <;> cases bg <;> cases bk <;> simp only [bI] at i1 i2 i3
      all_goals
        go_wp2_with fail
        go_roundw
        case rel =>
          refine ⟨j + 1, by omega, by go_num, ?_, by first | exact hkr.setCell _ (Or.inl (by simp)) _ | exact (hkr.setCell _ (Or.inl (by simp)) _).setCell _ (Or.inl (by simp)) _⟩
          first
            | exact N1.out false HEj.out
            | exact N1.out true HEj.out
            | exact N2.out false false HEj.out
            | exact N2.out false true HEj.out
            | exact N2.out true false HEj.out
            | exact N2.out true true HEj.out
        case measure => simp [intOf]; omega
    · have ej : j = P := by omega
      subst ej
      have hjj : ¬ (j : Int) < (j : Int) := by omega
      have hconv := (HPP.out ▸ hB.out : Bytes8 wr w.heap.size (2 ^ n) (fun i => if i < 2 ^ n then E i else false)).text (F := fun a => if F a then G a else K a) (fun i hi => by simp only [hi, if_true, HE.out]) (2 ^ n)
      rw [← HPP.out] at hconv
      have hkw : Keeps [] w wr := ((hkY.mono (by simp)).trans hkr).strike (by simp)
      have hcall := HH.out wr hkw
      clear hB
      go_wp2_with fail
      refine hcall.mono ?_
      rintro e w3 ⟨x, y, rfl, hR⟩
      go_wp2_with fail
      go_ret2
      exact ⟨x, y, rfl, hR⟩

end Go.Proofs.YtmgjegokkbghlaaGreat
