/- The document's store: Restrict, and what it refuses. The document's store: what Exists, Swap, Least and Size refuse. The document's store: Swap. -/
import Derived.Test.YtmgjegokkbghlaaGreatRefNo
namespace Go.Proofs.YtmgjegokkbghlaaGreat
open Go.RowKit Go.Maps Bdd
attribute [local go_sem ↓] Go.wp_at_zero Go.wp_at_succ

set_option maxRecDepth 100000 in
set_option maxHeartbeats 1000000 in
theorem rrestrict_any {w : World} {r n : Nat} {lv : Value} {hs : List (Int × ByteArray)} (hn8 : n ≤ 8) (hc : w.cell? ⟨r, 0, none⟩ = some (.int .i64 (n : Int))) (hh : Held w r lv hs) (hl : hs.length ≤ 60) {f : Int} {F G : (Int → Bool) → Bool} (hf : HasT n hs f F) {v : Nat} (hv : v < n) (b : Bool) (hG : ∀ i, i < 2 ^ n → G (asgN n i) = F (asgN n (putBit i (n - 1 - v) b))) {R : Int → Int → World → Prop} (hhold : HoldsR w r (txt n G) R) :
    Calls Tryz.prog 37 #[.pointer (some ⟨r, 0, none⟩), .int .i64 f, .int .i64 (v : Int), .bool b] w fun e w' => ∃ x y, e = .returned (.tuple #[.int .i64 x, .int .i64 y]) ∧ R x y w' := by
  obtain ⟨p, hf1, hf2⟩ := hf
  have hof := rof_some (n := n) (F := F) hh hl hf1 hf2
  have hi := risvar_yes hc hv
  have ht := rtruth_any (w := w) b
  have HG : Hid (Calls Tryz.prog 89 #[.pointer (some ⟨r, 0, none⟩), .string (txt n F), .int .i64 (v : Int), .int .i64 (bI b)] w fun e w' => e = .returned (.string (txt n G)) ∧ Keeps [] w w') := by
    refine (rgiven_any hn8 hc F hv b).mono ?_
    rintro e w' ⟨S, rfl, hS, hk⟩
    rw [hS G hG]
    exact ⟨rfl, hk⟩
  have HH : Hid (HoldsR w r (txt n G) R) := hhold
  generalize txt n F = S1 at *
  generalize txt n G = S2 at *
  clear hf1 hf2 hh hG hhold
  cases b
  all_goals
    simp only [bI] at HG
    go_enter Tryz.func37, Tryz.ntmps37
    go_wp2_with fail
    refine hof.mono ?_
    rintro e w1 ⟨rfl, rfl⟩
    go_wp2_with fail
    refine hi.mono ?_
    rintro e w1 ⟨rfl, rfl⟩
    go_wp2_with fail
    refine ht.mono ?_
    rintro e w1 ⟨rfl, rfl⟩
    go_wp2_with fail
    refine HG.out.mono ?_
    rintro e w1 ⟨rfl, hk⟩
    go_wp2_with fail
    refine (HH.out _ hk).mono ?_
    rintro e w2 ⟨x, y, rfl, hR⟩
    go_wp2_with fail
    go_ret2
    exact ⟨x, y, rfl, hR⟩

set_option maxRecDepth 100000 in
set_option maxHeartbeats 1000000 in
theorem rrestrict_no {w : World} {r n : Nat} {lv : Value} {hs : List (Int × ByteArray)} (hc : w.cell? ⟨r, 0, none⟩ = some (.int .i64 (n : Int))) (hh : Held w r lv hs) (hl : hs.length ≤ 60) {f v : Int} (hf : IsIn hs f = false) (b : Bool) :
    Calls Tryz.prog 37 #[.pointer (some ⟨r, 0, none⟩), .int .i64 f, .int .i64 v, .bool b] w fun e w' => e = .returned (.tuple #[.int .i64 0, .int .i64 2]) ∧ w = w' := by
  obtain ⟨S, hof⟩ := rof_in hh hl f
  rw [hf] at hof
  have hi : ∃ c, Calls Tryz.prog 87 #[.pointer (some ⟨r, 0, none⟩), .int .i64 v] w fun e w' => e = .returned (.bool c) ∧ w = w' := by
    by_cases hv : v < 0 ∨ (n : Int) ≤ v
    · exact ⟨_, risvar_no hc hv⟩
    · obtain ⟨k, rfl⟩ := Int.eq_ofNat_of_zero_le (a := v) (by omega)
      exact ⟨_, risvar_yes hc (v := k) (by omega)⟩
  obtain ⟨c, hi⟩ := hi
  clear hh hf
  go_enter Tryz.func37, Tryz.ntmps37
  go_wp2_with fail
  refine hof.mono ?_
  rintro e w1 ⟨rfl, rfl⟩
  go_wp2_with fail
  refine hi.mono ?_
  rintro e w1 ⟨rfl, rfl⟩
  go_wp2_with fail
  go_ret2
  exact ⟨rfl, by first | rfl | trivial⟩

set_option maxRecDepth 100000 in
set_option maxHeartbeats 1000000 in
theorem rrestrict_var {w : World} {r n : Nat} {lv : Value} {hs : List (Int × ByteArray)} (hc : w.cell? ⟨r, 0, none⟩ = some (.int .i64 (n : Int))) (hh : Held w r lv hs) (hl : hs.length ≤ 60) {f v : Int} (hf : IsIn hs f = true) (hv : v < 0 ∨ (n : Int) ≤ v) (b : Bool) :
    Calls Tryz.prog 37 #[.pointer (some ⟨r, 0, none⟩), .int .i64 f, .int .i64 v, .bool b] w fun e w' => e = .returned (.tuple #[.int .i64 0, .int .i64 3]) ∧ w = w' := by
  obtain ⟨S, hof⟩ := rof_in hh hl f
  rw [hf] at hof
  have hi := risvar_no hc hv
  clear hh hf hv
  go_enter Tryz.func37, Tryz.ntmps37
  go_wp2_with fail
  refine hof.mono ?_
  rintro e w1 ⟨rfl, rfl⟩
  go_wp2_with fail
  refine hi.mono ?_
  rintro e w1 ⟨rfl, rfl⟩
  go_wp2_with fail
  go_ret2
  exact ⟨rfl, by first | rfl | trivial⟩

end Go.Proofs.YtmgjegokkbghlaaGreat

namespace Go.Proofs.YtmgjegokkbghlaaGreat
open Go.RowKit Go.Maps Bdd
attribute [local go_sem ↓] Go.wp_at_zero Go.wp_at_succ

theorem risvar_some {w : World} {r n : Nat} (hc : w.cell? ⟨r, 0, none⟩ = some (.int .i64 (n : Int))) (v : Int) : Calls Tryz.prog 87 #[.pointer (some ⟨r, 0, none⟩), .int .i64 v] w fun e w' => e = .returned (.bool (decide (0 ≤ v ∧ v < (n : Int)))) ∧ w = w' := by
  by_cases hv : v < 0 ∨ (n : Int) ≤ v
  · have e : decide (0 ≤ v ∧ v < (n : Int)) = false := by simp; omega
    rw [e]
    exact risvar_no hc hv
  · have e : decide (0 ≤ v ∧ v < (n : Int)) = true := by simp; omega
    rw [e]
    obtain ⟨k, rfl⟩ := Int.eq_ofNat_of_zero_le (a := v) (by omega)
    exact risvar_yes hc (v := k) (by omega)

set_option maxRecDepth 100000 in
set_option maxHeartbeats 1000000 in
theorem rexists_no {w : World} {r : Nat} {lv vs : Value} {hs : List (Int × ByteArray)} (hh : Held w r lv hs) (hl : hs.length ≤ 60) {f : Int} (hf : IsIn hs f = false) :
    Calls Tryz.prog 38 #[.pointer (some ⟨r, 0, none⟩), .int .i64 f, vs] w fun e w' => e = .returned (.tuple #[.int .i64 0, .int .i64 2]) ∧ w = w' := by
  obtain ⟨S, hof⟩ := rof_in hh hl f
  rw [hf] at hof
  clear hh hf
  go_enter Tryz.func38, Tryz.ntmps38
  go_wp2_with fail
  refine hof.mono ?_
  rintro e w1 ⟨rfl, rfl⟩
  go_wp2_with fail
  go_ret2
  exact ⟨rfl, by first | rfl | trivial⟩

set_option maxRecDepth 100000 in
set_option maxHeartbeats 1000000 in
theorem rleast_no {w : World} {r : Nat} {lv : Value} {hs : List (Int × ByteArray)} (hh : Held w r lv hs) (hl : hs.length ≤ 60) {f : Int} (hf : IsIn hs f = false) :
    Calls Tryz.prog 60 #[.pointer (some ⟨r, 0, none⟩), .int .i64 f] w fun e w' => e = .returned (.tuple #[.slice none 0 0, .int .i64 2]) ∧ w = w' := by
  obtain ⟨S, hof⟩ := rof_in hh hl f
  rw [hf] at hof
  clear hh hf
  go_enter Tryz.func60, Tryz.ntmps60
  go_wp2_with fail
  refine hof.mono ?_
  rintro e w1 ⟨rfl, rfl⟩
  go_wp2_with fail
  go_ret2
  exact ⟨rfl, by first | rfl | trivial⟩

set_option maxRecDepth 100000 in
set_option maxHeartbeats 1000000 in
theorem rsize_no {w : World} {r : Nat} {lv : Value} {hs : List (Int × ByteArray)} (hh : Held w r lv hs) (hl : hs.length ≤ 60) {f : Int} (hf : IsIn hs f = false) :
    Calls Tryz.prog 62 #[.pointer (some ⟨r, 0, none⟩), .int .i64 f] w fun e w' => e = .returned (.tuple #[.int .i64 0, .int .i64 2]) ∧ w = w' := by
  obtain ⟨S, hof⟩ := rof_in hh hl f
  rw [hf] at hof
  clear hh hf
  go_enter Tryz.func62, Tryz.ntmps62
  go_wp2_with fail
  refine hof.mono ?_
  rintro e w1 ⟨rfl, rfl⟩
  go_wp2_with fail
  go_ret2
  exact ⟨rfl, by first | rfl | trivial⟩

set_option maxRecDepth 100000 in
set_option maxHeartbeats 1000000 in
theorem rswap_no {w : World} {r n : Nat} {lv : Value} {hs : List (Int × ByteArray)} (hc : w.cell? ⟨r, 0, none⟩ = some (.int .i64 (n : Int))) (hh : Held w r lv hs) (hl : hs.length ≤ 60) {f u v : Int} (hf : IsIn hs f = false) :
    Calls Tryz.prog 39 #[.pointer (some ⟨r, 0, none⟩), .int .i64 f, .int .i64 u, .int .i64 v] w fun e w' => e = .returned (.tuple #[.int .i64 0, .int .i64 2]) ∧ w = w' := by
  obtain ⟨S, hof⟩ := rof_in hh hl f
  rw [hf] at hof
  have h1 := risvar_some hc u
  have h2 := risvar_some hc v
  generalize decide (0 ≤ u ∧ u < (n : Int)) = a at *
  generalize decide (0 ≤ v ∧ v < (n : Int)) = b at *
  clear hh hf
  go_enter Tryz.func39, Tryz.ntmps39
  go_wp2_with fail
  refine hof.mono ?_
  rintro e w1 ⟨rfl, rfl⟩
  go_wp2_with fail
  refine h1.mono ?_
  rintro e w1 ⟨rfl, rfl⟩
  go_wp2_with fail
  refine h2.mono ?_
  rintro e w1 ⟨rfl, rfl⟩
  go_wp2_with fail
  go_ret2
  exact ⟨rfl, by first | rfl | trivial⟩

set_option maxRecDepth 100000 in
set_option maxHeartbeats 1000000 in
theorem rswap_var {w : World} {r n : Nat} {lv : Value} {hs : List (Int × ByteArray)} (hc : w.cell? ⟨r, 0, none⟩ = some (.int .i64 (n : Int))) (hh : Held w r lv hs) (hl : hs.length ≤ 60) {f u v : Int} (hf : IsIn hs f = true) (hv : ¬ ((0 ≤ u ∧ u < (n : Int)) ∧ (0 ≤ v ∧ v < (n : Int)))) :
    Calls Tryz.prog 39 #[.pointer (some ⟨r, 0, none⟩), .int .i64 f, .int .i64 u, .int .i64 v] w fun e w' => e = .returned (.tuple #[.int .i64 0, .int .i64 3]) ∧ w = w' := by
  obtain ⟨S, hof⟩ := rof_in hh hl f
  rw [hf] at hof
  have h1 := risvar_some hc u
  have h2 := risvar_some hc v
  have hab : (decide (0 ≤ u ∧ u < (n : Int)) && decide (0 ≤ v ∧ v < (n : Int))) = false := by
    rw [← Bool.decide_and]; exact decide_eq_false hv
  clear hv
  generalize decide (0 ≤ u ∧ u < (n : Int)) = a at *
  generalize decide (0 ≤ v ∧ v < (n : Int)) = b at *
  clear hh hf
  cases a <;> cases b
  case true.true => exact absurd hab (by decide)
  all_goals
    clear hab
    go_enter Tryz.func39, Tryz.ntmps39
    go_wp2_with fail
    refine hof.mono ?_
    rintro e w1 ⟨rfl, rfl⟩
    go_wp2_with fail
    refine h1.mono ?_
    rintro e w1 ⟨rfl, rfl⟩
    go_wp2_with fail
    refine h2.mono ?_
    rintro e w1 ⟨rfl, rfl⟩
    go_wp2_with fail
    go_ret2
    exact ⟨rfl, by first | rfl | trivial⟩

end Go.Proofs.YtmgjegokkbghlaaGreat

namespace Go.Proofs.YtmgjegokkbghlaaGreat
open Go.RowKit Go.Maps Bdd
attribute [local go_sem ↓] Go.wp_at_zero Go.wp_at_succ

/-- a number with two variables' bits swapped -/
def swapBit (n i u v : Nat) : Nat := putBit (putBit i (n - 1 - u) (i.testBit (n - 1 - v))) (n - 1 - v) (i.testBit (n - 1 - u))

set_option maxRecDepth 100000 in
set_option maxHeartbeats 1000000 in
theorem rswap_any {w : World} {r n : Nat} {lv : Value} {hs : List (Int × ByteArray)} (hn8 : n ≤ 8) (hc : w.cell? ⟨r, 0, none⟩ = some (.int .i64 (n : Int))) (hh : Held w r lv hs) (hl : hs.length ≤ 60) {f : Int} {F G : (Int → Bool) → Bool} (hf : HasT n hs f F) {u v : Nat} (hu : u < n) (hv : v < n) (hG : ∀ i, i < 2 ^ n → G (asgN n i) = F (asgN n (swapBit n i u v))) {R : Int → Int → World → Prop} (hhold : HoldsR w r (txt n G) R) :
    Calls Tryz.prog 39 #[.pointer (some ⟨r, 0, none⟩), .int .i64 f, .int .i64 (u : Int), .int .i64 (v : Int)] w fun e w' => ∃ x y, e = .returned (.tuple #[.int .i64 x, .int .i64 y]) ∧ R x y w' := by
  obtain ⟨i5, hi5, hz0, hz1, hz2⟩ := info_parts infoByte
  have h256 : 2 ^ n ≤ 256 := by
    have : 2 ^ n ≤ 2 ^ 8 := Nat.pow_le_pow_right (by omega) hn8
    omega
  have HMB : Hid (∀ w : World, (Instr.makeSlice 111 (.int .i64 ((2 ^ n : Nat) : Int)) (.int .i64 ((2 ^ n : Nat) : Int))).run Tryz.prog w = .ok (.slice (some ⟨w.heap.size, 0, none⟩) (2 ^ n) (2 ^ n)) (w.alloc (.cells (fillV (.int .u8 0) (2 ^ n)) 5))) := make_bytes hi5 hz0 hz1 hz2 h256
  have HH : Hid (HoldsR w r (txt n G) R) := hhold
  obtain ⟨p, hf1, hf2⟩ := hf
  have hof := rof_some (n := n) (F := F) hh hl hf1 hf2
  have hiu := risvar_yes hc hu
  have hiv := risvar_yes hc hv
  obtain ⟨S, hS⟩ : ∃ S, S = txt n F := ⟨_, rfl⟩
  obtain ⟨P, hP⟩ : ∃ P : Nat, P = 2 ^ n := ⟨_, rfl⟩
  have HI : Hid (∀ (i : Nat) (w : World), i < P → (Instr.index 9 (.string S) (.int .i64 (i : Int))).run Tryz.prog w = .ok (.int .u8 (bI (F (asgN n i)))) w) := fun i w hi => by rw [hS]; exact txt_index F (by omega) w
  have hsz := rsize_any (w := w) hn8 hc
  rw [← hS] at hof
  rw [← hP] at HMB h256 hsz
  have HPP : Hid (P = 2 ^ n) := hP
  have hP0 : (0 : Int) ≤ (P : Int) := by omega
  have hP1 : (P : Int) ≤ 256 := by omega
  have HG : Hid (∀ i, i < 2 ^ n → G (asgN n i) = F (asgN n (swapBit n i u v))) := hG
  clear hG hhold hi5 hz0 hz1 hz2 hP hS hf1 hf2 hh
  go_enter Tryz.func39, Tryz.ntmps39
  go_wp2_with fail
  refine hof.mono ?_
  rintro e w0 ⟨rfl, rfl⟩
  go_wp2_with fail
  refine hiu.mono ?_
  rintro e w0 ⟨rfl, rfl⟩
  go_wp2_with fail
  refine hiv.mono ?_
  rintro e w0 ⟨rfl, rfl⟩
  go_wp2_with fail
  refine hsz.mono ?_
  rintro e w1 ⟨rfl, rfl⟩
  go_wp2_with (first
    | (at_make; refine wpList_make_at rfl _ _ 111 rfl (.int .i64 (P : Int)) (.int .i64 (P : Int)) _ rfl rfl (HMB.out _) ?_)
    | fail)
  obtain ⟨Y, hY⟩ : ∃ Y, Y = w.alloc (Obj.cells (fillV (Value.int .u8 0) P) 5) := ⟨_, rfl⟩
  rw [← hY]
  have hkY : Keeps [] w Y := by rw [hY]; exact (Keeps.refl _ _).alloc _
  have b2 : Bytes8 Y w.heap.size P (fun i => if i < 0 then G (asgN n i) else false) := fun k hk => by
    rw [hY]
    exact ⟨cell_new w _ _ rfl (fillV_get _ hk), World.frozen?_alloc_at _ _ _ _ rfl⟩
  have HB2 : Hid (Bytes8 Y w.heap.size P (fun i => if i < 0 then G (asgN n i) else false)) := b2
  clear hY b2
  go_loopw [15, 16] (fun i _ wr => ∃ j : Nat, j ≤ P ∧ i = .int .i64 j ∧ Hid (Bytes8 wr w.heap.size P (fun i => if i < j then G (asgN n i) else false)) ∧ Keeps [w.heap.size] Y wr) (fun i _ _ => P - (intOf i).toNat)
  case atStart => exact ⟨0, by omega, rfl, HB2.out, Keeps.refl _ _⟩
  case round =>
    clear HB2
    obtain ⟨j, hj, rfl, hB, hkr⟩ := hrel
    by_cases hlt : j < P
    · have hj0 : (0 : Int) ≤ (j : Int) := by omega
      have hj1 : (j : Int) < (P : Int) := by omega
      have p1 := (hB.out j hlt).1
      have p2 := (hB.out j hlt).2
      have i2 := fun w => HI.out j w hlt
      have hB' := hB.out.set (k := j) (f' := fun i => if i < j + 1 then G (asgN n i) else false) (G (asgN n j)) (by simp) (fun i _ hi => by
        by_cases hij : i < j
        · rw [if_pos hij, if_pos (by omega)]
        · rw [if_neg hij, if_neg (by omega)])
      have HB' : Hid (Bytes8 (wr.setCell ⟨w.heap.size, j, none⟩ (.int .u8 (if G (asgN n j) then 1 else 0))) w.heap.size P (fun i => if i < j + 1 then G (asgN n i) else false)) := hB'
      clear hB' hB
      have hjn : j < 2 ^ n := by rw [← HPP.out]; exact hlt
      have hcr := hkr.cell (hkY.cell hc (by simp)) (by simp [Nat.ne_of_lt (cell_lt (p := ⟨r, 0, none⟩) hc)])
      have l3 := putBit_lt hn8 hjn (show n - 1 - u < n by omega) (j.testBit (n - 1 - v))
      have l4 := putBit_lt hn8 l3 (show n - 1 - v < n by omega) (j.testBit (n - 1 - u))
      have HQ : Hid (∀ w', w'.cell? ⟨r, 0, none⟩ = some (.int .i64 (n : Int)) → (∀ x : Nat, x < n → Calls Tryz.prog 88 #[.pointer (some ⟨r, 0, none⟩), .int .i64 (j : Int), .int .i64 (x : Int)] w' fun e w'' => e = .returned (.int .i64 (bI (j.testBit (n - 1 - x)))) ∧ w'' = w')) := fun w' hc' x hx => by
        refine (rbit_any hn8 hc' hjn hx).mono ?_
        rintro e w'' ⟨rfl, rfl⟩
        exact ⟨rfl, rfl⟩
      have HR : Hid (∀ w', w'.cell? ⟨r, 0, none⟩ = some (.int .i64 (n : Int)) → (∀ (y x : Nat) (b : Bool), y < 2 ^ n → x < n → Calls Tryz.prog 90 #[.pointer (some ⟨r, 0, none⟩), .int .i64 (y : Int), .int .i64 (x : Int), .int .i64 (bI b)] w' fun e w'' => e = .returned (.int .i64 ((putBit y (n - 1 - x) b : Nat) : Int)) ∧ w'' = w')) := fun w' hc' y x b hy hx => by
        refine (rwith_any hn8 hc' hy hx b).mono ?_
        rintro e w'' ⟨rfl, rfl⟩
        exact ⟨rfl, rfl⟩
      have HL3 : Hid (putBit j (n - 1 - u) (j.testBit (n - 1 - v)) < 2 ^ n) := l3
      have HJN : Hid (j < 2 ^ n) := hjn
      have i3 := fun w => HI.out (swapBit n j u v) w (by rw [HPP.out]; exact l4)
      have HGj : G (asgN n j) = F (asgN n (swapBit n j u v)) := HG.out j hjn
      rw [← HGj] at i3
      clear HGj l3 l4 i2
      have hk0 : (0 : Int) ≤ ((swapBit n j u v : Nat) : Int) := by omega
      have hcr' := fun q => ((Keeps.refl [] wr).drewN q).cell hcr (by simp)
      go_wp2_with fail
      refine (HQ.out _ hcr _ hv).mono ?_
      rintro e w' ⟨rfl, rfl⟩
      go_wp2_with fail
      refine (HR.out _ hcr _ _ _ HJN.out hu).mono ?_
      rintro e w' ⟨rfl, rfl⟩
      go_wp2_with fail
      refine (HQ.out _ hcr _ hu).mono ?_
      rintro e w' ⟨rfl, rfl⟩
      go_wp2_with fail
      refine (HR.out _ hcr _ _ _ HL3.out hv).mono ?_
      rintro e w' ⟨rfl, rfl⟩
      have es : putBit (putBit j (n - 1 - u) (j.testBit (n - 1 - v))) (n - 1 - v) (j.testBit (n - 1 - u)) = swapBit n j u v := rfl
      rw [es]
      generalize swapBit n j u v = K at *
      cases hy : G (asgN n j) with
      | true =>
        rw [hy] at i3 HB'
        simp only [bI] at i3
        clear hy
        go_wp2_with fail
        go_roundw
        case rel => exact ⟨j + 1, by omega, by go_num, HB'.out, hkr.setCell _ (Or.inl (by simp)) _⟩
        case measure => simp [intOf]; omega
      | false =>
        rw [hy] at i3 HB'
        simp only [bI] at i3
        clear hy
        go_wp2_with fail
        go_roundw
        case rel => exact ⟨j + 1, by omega, by go_num, HB'.out, hkr.setCell _ (Or.inl (by simp)) _⟩
        case measure => simp [intOf]; omega
    · have ej : j = P := by omega
      subst ej
      have hjj : ¬ (j : Int) < (j : Int) := by omega
      have hconv := (HPP.out ▸ hB.out : Bytes8 wr w.heap.size (2 ^ n) (fun i => if i < 2 ^ n then G (asgN n i) else false)).text (F := G) (fun i hi => by simp only [hi, if_true]) (2 ^ n)
      rw [← HPP.out] at hconv
      have hkw : Keeps [] w wr := ((hkY.mono (by simp)).trans hkr).strike (by simp)
      have hcall := HH.out wr hkw
      clear hB
      go_wp2_with fail
      refine hcall.mono ?_
      rintro e w3 ⟨x, y, rfl, hR⟩
      go_wp2_with fail
      go_ret2
      exact ⟨x, y, rfl, hR⟩

end Go.Proofs.YtmgjegokkbghlaaGreat
