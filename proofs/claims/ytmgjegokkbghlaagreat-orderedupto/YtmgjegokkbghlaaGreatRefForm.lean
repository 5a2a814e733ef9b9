/- The document's store: Restrict, and what it refuses. The document's store: what Exists, Swap, Least and Size refuse. The document's store: Swap. The document's store: Exists, Least, Size. The document's store: Least, Size. -/
import Derived.Test.YtmgjegokkbghlaaGreatRefNo
namespace Go.Proofs.YtmgjegokkbghlaaGreat
open Go.RowKit Go.Maps Bdd
attribute [local go_sem ↓] Go.wp_at_zero Go.wp_at_succ

set_option maxRecDepth 100000 in
set_option maxHeartbeats 1000000 in
theorem rrestrict_any {w : World} {r n : Nat} {lv : Value} {hs : List (Int × ByteArray)} (hn8 : n ≤ 8) (hc : w.cell? ⟨r, 0, none⟩ = some (.int .i64 (n : Int))) (hh : Held w r lv hs) (hl : hs.length ≤ 60) {f : Int} {F G : (Int → Bool) → Bool} (hf : HasT n hs f F) {v : Nat} (hv : v < n) (b : Bool) (hG : ∀ i, i < 2 ^ n → G (asgN n i) = F (asgN n (putBit i (n - 1 - v) b))) {R : Int → Int → World → Prop} (hhold : HoldsR w r (txt n G) R) :
    Calls Tryz.prog 37 #[.pointer (some ⟨r, 0, none⟩), .int .i64 f, .int .i64 (v : Int), .bool b] w fun e w' => ∃ x y, e = .returned (.tuple #[.int .i64 x, .int .i64 y]) ∧ R x y w' := by
  obtain ⟨p, hf1, hf2⟩ := hf
  have hof := rof_some (n := n) (F := F) hh hl hf1 hf2
  have hi := risvar_yes hc hv
  have ht := rtruth_any (w := w) b
  have HG : Hid (Calls Tryz.prog 89 #[.pointer (some ⟨r, 0, none⟩), .string (txt n F), .int .i64 (v : Int), .int .i64 (bI b)] w fun e w' => e = .returned (.string (txt n G)) ∧ Keeps [] w w') := by
    refine (rgiven_any hn8 hc F hv b).mono ?_
    rintro e w' ⟨S, rfl, hS, hk⟩
    rw [hS G hG]
    exact ⟨rfl, hk⟩
  have HH : Hid (HoldsR w r (txt n G) R) := hhold
  generalize txt n F = S1 at *
  generalize txt n G = S2 at *
  clear hf1 hf2 hh hG hhold
  cases b
  all_goals
    simp only [bI] at HG
    go_enter Tryz.func37, Tryz.ntmps37
    go_wp2_with fail
    refine hof.mono ?_
    rintro e w1 ⟨rfl, rfl⟩
    go_wp2_with fail
    refine hi.mono ?_
    rintro e w1 ⟨rfl, rfl⟩
    go_wp2_with fail
    refine ht.mono ?_
    rintro e w1 ⟨rfl, rfl⟩
    go_wp2_with fail
    refine HG.out.mono ?_
    rintro e w1 ⟨rfl, hk⟩
    go_wp2_with fail
    refine (HH.out _ hk).mono ?_
    rintro e w2 ⟨x, y, rfl, hR⟩
    go_wp2_with fail
    go_ret2
    exact ⟨x, y, rfl, hR⟩

set_option maxRecDepth 100000 in
set_option maxHeartbeats 1000000 in
theorem rrestrict_no {w : World} {r n : Nat} {lv : Value} {hs : List (Int × ByteArray)} (hc : w.cell? ⟨r, 0, none⟩ = some (.int .i64 (n : Int))) (hh : Held w r lv hs) (hl : hs.length ≤ 60) {f v : Int} (hf : IsIn hs f = false) (b : Bool) :
    Calls Tryz.prog 37 #[.pointer (some ⟨r, 0, none⟩), .int .i64 f, .int .i64 v, .bool b] w fun e w' => e = .returned (.tuple #[.int .i64 0, .int .i64 2]) ∧ w = w' := by
  obtain ⟨S, hof⟩ := rof_in hh hl f
  rw [hf] at hof
  have hi : ∃ c, Calls Tryz.prog 87 #[.pointer (some ⟨r, 0, none⟩), .int .i64 v] w fun e w' => e = .returned (.bool c) ∧ w = w' := by
    by_cases hv : v < 0 ∨ (n : Int) ≤ v
    · exact ⟨_, risvar_no hc hv⟩
    · obtain ⟨k, rfl⟩ := Int.eq_ofNat_of_zero_le (a := v) (by omega)
      exact ⟨_, risvar_yes hc (v := k) (by omega)⟩
  obtain ⟨c, hi⟩ := hi
  clear hh hf
  go_enter Tryz.func37, Tryz.ntmps37
  go_wp2_with fail
  refine hof.mono ?_
  rintro e w1 ⟨rfl, rfl⟩
  go_wp2_with fail
  refine hi.mono ?_
  rintro e w1 ⟨rfl, rfl⟩
  go_wp2_with fail
  go_ret2
  exact ⟨rfl, by first | rfl | trivial⟩

set_option maxRecDepth 100000 in
set_option maxHeartbeats 1000000 in
theorem rrestrict_var {w : World} {r n : Nat} {lv : Value} {hs : List (Int × ByteArray)} (hc : w.cell? ⟨r, 0, none⟩ = some (.int .i64 (n : Int))) (hh : Held w r lv hs) (hl : hs.length ≤ 60) {f v : Int} (hf : IsIn hs f = true) (hv : v < 0 ∨ (n : Int) ≤ v) (b : Bool) :
    Calls Tryz.prog 37 #[.pointer (some ⟨r, 0, none⟩), .int .i64 f, .int .i64 v, .bool b] w fun e w' => e = .returned (.tuple #[.int .i64 0, .int .i64 3]) ∧ w = w' := by
  obtain ⟨S, hof⟩ := rof_in hh hl f
  rw [hf] at hof
  have hi := risvar_no hc hv
  clear hh hf hv
  go_enter Tryz.func37, Tryz.ntmps37
  go_wp2_with fail
  refine hof.mono ?_
  rintro e w1 ⟨rfl, rfl⟩
  go_wp2_with fail
  refine hi.mono ?_
  rintro e w1 ⟨rfl, rfl⟩
  go_wp2_with fail
  go_ret2
  exact ⟨rfl, by first | rfl | trivial⟩

end Go.Proofs.YtmgjegokkbghlaaGreat

namespace Go.Proofs.YtmgjegokkbghlaaGreat
open Go.RowKit Go.Maps Bdd
attribute [local go_sem ↓] Go.wp_at_zero Go.wp_at_succ

theorem risvar_some {w : World} {r n : Nat} (hc : w.cell? ⟨r, 0, none⟩ = some (.int .i64 (n : Int))) (v : Int) : Calls Tryz.prog 87 #[.pointer (some ⟨r, 0, none⟩), .int .i64 v] w fun e w' => e = .returned (.bool (decide (0 ≤ v ∧ v < (n : Int)))) ∧ w = w' := by
  by_cases hv : v < 0 ∨ (n : Int) ≤ v
  · have e : decide (0 ≤ v ∧ v < (n : Int)) = false := by simp; omega
    rw [e]
    exact risvar_no hc hv
  · have e : decide (0 ≤ v ∧ v < (n : Int)) = true := by simp; omega
    rw [e]
    obtain ⟨k, rfl⟩ := Int.eq_ofNat_of_zero_le (a := v) (by omega)
    exact risvar_yes hc (v := k) (by omega)

set_option maxRecDepth 100000 in
set_option maxHeartbeats 1000000 in
theorem rexists_no {w : World} {r : Nat} {lv vs : Value} {hs : List (Int × ByteArray)} (hh : Held w r lv hs) (hl : hs.length ≤ 60) {f : Int} (hf : IsIn hs f = false) :
    Calls Tryz.prog 38 #[.pointer (some ⟨r, 0, none⟩), .int .i64 f, vs] w fun e w' => e = .returned (.tuple #[.int .i64 0, .int .i64 2]) ∧ w = w' := by
  obtain ⟨S, hof⟩ := rof_in hh hl f
  rw [hf] at hof
  clear hh hf
  go_enter Tryz.func38, Tryz.ntmps38
  go_wp2_with fail
  refine hof.mono ?_
  rintro e w1 ⟨rfl, rfl⟩
  go_wp2_with fail
  go_ret2
  exact ⟨rfl, by first | rfl | trivial⟩

set_option maxRecDepth 100000 in
set_option maxHeartbeats 1000000 in
theorem rleast_no {w : World} {r : Nat} {lv : Value} {hs : List (Int × ByteArray)} (hh : Held w r lv hs) (hl : hs.length ≤ 60) {f : Int} (hf : IsIn hs f = false) :
    Calls Tryz.prog 60 #[.pointer (some ⟨r, 0, none⟩), .int .i64 f] w fun e w' => e = .returned (.tuple #[.slice none 0 0, .int .i64 2]) ∧ w = w' := by
  obtain ⟨S, hof⟩ := rof_in hh hl f
  rw [hf] at hof
  clear hh hf
  go_enter Tryz.func60, Tryz.ntmps60
  go_wp2_with fail
  refine hof.mono ?_
  rintro e w1 ⟨rfl, rfl⟩
  go_wp2_with fail
  go_ret2
  exact ⟨rfl, by first | rfl | trivial⟩

set_option maxRecDepth 100000 in
set_option maxHeartbeats 1000000 in
theorem rsize_no {w : World} {r : Nat} {lv : Value} {hs : List (Int × ByteArray)} (hh : Held w r lv hs) (hl : hs.length ≤ 60) {f : Int} (hf : IsIn hs f = false) :
    Calls Tryz.prog 62 #[.pointer (some ⟨r, 0, none⟩), .int .i64 f] w fun e w' => e = .returned (.tuple #[.int .i64 0, .int .i64 2]) ∧ w = w' := by
  obtain ⟨S, hof⟩ := rof_in hh hl f
  rw [hf] at hof
  clear hh hf
  go_enter Tryz.func62, Tryz.ntmps62
  go_wp2_with fail
  refine hof.mono ?_
  rintro e w1 ⟨rfl, rfl⟩
  go_wp2_with fail
  go_ret2
  exact ⟨rfl, by first | rfl | trivial⟩

set_option maxRecDepth 100000 in
set_option maxHeartbeats 1000000 in
theorem rswap_no {w : World} {r n : Nat} {lv : Value} {hs : List (Int × ByteArray)} (hc : w.cell? ⟨r, 0, none⟩ = some (.int .i64 (n : Int))) (hh : Held w r lv hs) (hl : hs.length ≤ 60) {f u v : Int} (hf : IsIn hs f = false) :
    Calls Tryz.prog 39 #[.pointer (some ⟨r, 0, none⟩), .int .i64 f, .int .i64 u, .int .i64 v] w fun e w' => e = .returned (.tuple #[.int .i64 0, .int .i64 2]) ∧ w = w' := by
  obtain ⟨S, hof⟩ := rof_in hh hl f
  rw [hf] at hof
  have h1 := risvar_some hc u
  have h2 := risvar_some hc v
  generalize decide (0 ≤ u ∧ u < (n : Int)) = a at *
  generalize decide (0 ≤ v ∧ v < (n : Int)) = b at *
  clear hh hf
  go_enter Tryz.func39, Tryz.ntmps39
  go_wp2_with fail
  refine hof.mono ?_
  rintro e w1 ⟨rfl, rfl⟩
  go_wp2_with fail
  refine h1.mono ?_
  rintro e w1 ⟨rfl, rfl⟩
  go_wp2_with fail
  refine h2.mono ?_
  rintro e w1 ⟨rfl, rfl⟩
  go_wp2_with fail
  go_ret2
  exact ⟨rfl, by first | rfl | trivial⟩

set_option maxRecDepth 100000 in
set_option maxHeartbeats 1000000 in
theorem rswap_var {w : World} {r n : Nat} {lv : Value} {hs : List (Int × ByteArray)} (hc : w.cell? ⟨r, 0, none⟩ = some (.int .i64 (n : Int))) (hh : Held w r lv hs) (hl : hs.length ≤ 60) {f u v : Int} (hf : IsIn hs f = true) (hv : ¬ ((0 ≤ u ∧ u < (n : Int)) ∧ (0 ≤ v ∧ v < (n : Int)))) :
    Calls Tryz.prog 39 #[.pointer (some ⟨r, 0, none⟩), .int .i64 f, .int .i64 u, .int .i64 v] w fun e w' => e = .returned (.tuple #[.int .i64 0, .int .i64 3]) ∧ w = w' := by
  obtain ⟨S, hof⟩ := rof_in hh hl f
  rw [hf] at hof
  have h1 := risvar_some hc u
  have h2 := risvar_some hc v
  have hab : (decide (0 ≤ u ∧ u < (n : Int)) && decide (0 ≤ v ∧ v < (n : Int))) = false := by
    rw [← Bool.decide_and]; exact decide_eq_false hv
  clear hv
  generalize decide (0 ≤ u ∧ u < (n : Int)) = a at *
  generalize decide (0 ≤ v ∧ v < (n : Int)) = b at *
  clear hh hf
  cases a <;> cases b
  case true.true => exact absurd hab (by decide)
  all_goals
    clear hab
    go_enter Tryz.func39, Tryz.ntmps39
    go_wp2_with fail
    refine hof.mono ?_
    rintro e w1 ⟨rfl, rfl⟩
    go_wp2_with fail
    refine h1.mono ?_
    rintro e w1 ⟨rfl, rfl⟩
    go_wp2_with fail
    refine h2.mono ?_
    rintro e w1 ⟨rfl, rfl⟩
    go_wp2_with fail
    go_ret2
    exact ⟨rfl, by first | rfl | trivial⟩

end Go.Proofs.YtmgjegokkbghlaaGreat

namespace Go.Proofs.YtmgjegokkbghlaaGreat
open Go.RowKit Go.Maps Bdd
attribute [local go_sem ↓] Go.wp_at_zero Go.wp_at_succ

/-- a number with two variables' bits swapped -/
def swapBit (n i u v : Nat) : Nat := putBit (putBit i (n - 1 - u) (i.testBit (n - 1 - v))) (n - 1 - v) (i.testBit (n - 1 - u))

set_option maxRecDepth 100000 in
set_option maxHeartbeats 1000000 in
theorem rswap_any {w : World} {r n : Nat} {lv : Value} {hs : List (Int × ByteArray)} (hn8 : n ≤ 8) (hc : w.cell? ⟨r, 0, none⟩ = some (.int .i64 (n : Int))) (hh : Held w r lv hs) (hl : hs.length ≤ 60) {f : Int} {F G : (Int → Bool) → Bool} (hf : HasT n hs f F) {u v : Nat} (hu : u < n) (hv : v < n) (hG : ∀ i, i < 2 ^ n → G (asgN n i) = F (asgN n (swapBit n i u v))) {R : Int → Int → World → Prop} (hhold : HoldsR w r (txt n G) R) :
    Calls Tryz.prog 39 #[.pointer (some ⟨r, 0, none⟩), .int .i64 f, .int .i64 (u : Int), .int .i64 (v : Int)] w fun e w' => ∃ x y, e = .returned (.tuple #[.int .i64 x, .int .i64 y]) ∧ R x y w' := by
  obtain ⟨i5, hi5, hz0, hz1, hz2⟩ := info_parts infoByte
  have h256 : 2 ^ n ≤ 256 := by
    have : 2 ^ n ≤ 2 ^ 8 := Nat.pow_le_pow_right (by omega) hn8
    omega
  have HMB : Hid (∀ w : World, (Instr.makeSlice 111 (.int .i64 ((2 ^ n : Nat) : Int)) (.int .i64 ((2 ^ n : Nat) : Int))).run Tryz.prog w = .ok (.slice (some ⟨w.heap.size, 0, none⟩) (2 ^ n) (2 ^ n)) (w.alloc (.cells (fillV (.int .u8 0) (2 ^ n)) 5))) := make_bytes hi5 hz0 hz1 hz2 h256
  have HH : Hid (HoldsR w r (txt n G) R) := hhold
  obtain ⟨p, hf1, hf2⟩ := hf
  have hof := rof_some (n := n) (F := F) hh hl hf1 hf2
  have hiu := risvar_yes hc hu
  have hiv := risvar_yes hc hv
  obtain ⟨S, hS⟩ : ∃ S, S = txt n F := ⟨_, rfl⟩
  obtain ⟨P, hP⟩ : ∃ P : Nat, P = 2 ^ n := ⟨_, rfl⟩
  have HI : Hid (∀ (i : Nat) (w : World), i < P → (Instr.index 9 (.string S) (.int .i64 (i : Int))).run Tryz.prog w = .ok (.int .u8 (bI (F (asgN n i)))) w) := fun i w hi => by rw [hS]; exact txt_index F (by omega) w
  have hsz := rsize_any (w := w) hn8 hc
  rw [← hS] at hof
  rw [← hP] at HMB h256 hsz
  have HPP : Hid (P = 2 ^ n) := hP
  have hP0 : (0 : Int) ≤ (P : Int) := by omega
  have hP1 : (P : Int) ≤ 256 := by omega
  have HG : Hid (∀ i, i < 2 ^ n → G (asgN n i) = F (asgN n (swapBit n i u v))) := hG
  clear hG hhold hi5 hz0 hz1 hz2 hP hS hf1 hf2 hh
  go_enter Tryz.func39, Tryz.ntmps39
  go_wp2_with fail
  refine hof.mono ?_
  rintro e w0 ⟨rfl, rfl⟩
  go_wp2_with fail
  refine hiu.mono ?_
  rintro e w0 ⟨rfl, rfl⟩
  go_wp2_with fail
  refine hiv.mono ?_
  rintro e w0 ⟨rfl, rfl⟩
  go_wp2_with fail
  refine hsz.mono ?_
  rintro e w1 ⟨rfl, rfl⟩
  go_wp2_with (first
    | (at_make; refine wpList_make_at rfl _ _ 111 rfl (.int .i64 (P : Int)) (.int .i64 (P : Int)) _ rfl rfl (HMB.out _) ?_)
    | fail)
  obtain ⟨Y, hY⟩ : ∃ Y, Y = w.alloc (Obj.cells (fillV (Value.int .u8 0) P) 5) := ⟨_, rfl⟩
  rw [← hY]
  have hkY : Keeps [] w Y := by rw [hY]; exact (Keeps.refl _ _).alloc _
  have b2 : Bytes8 Y w.heap.size P (fun i => if i < 0 then G (asgN n i) else false) := fun k hk => by
    rw [hY]
    exact ⟨cell_new w _ _ rfl (fillV_get _ hk), World.frozen?_alloc_at _ _ _ _ rfl⟩
  have HB2 : Hid (Bytes8 Y w.heap.size P (fun i => if i < 0 then G (asgN n i) else false)) := b2
  clear hY b2
  go_loopw [15, 16] (fun i _ wr => ∃ j : Nat, j ≤ P ∧ i = .int .i64 j ∧ Hid (Bytes8 wr w.heap.size P (fun i => if i < j then G (asgN n i) else false)) ∧ Keeps [w.heap.size] Y wr) (fun i _ _ => P - (intOf i).toNat)
  case atStart => exact ⟨0, by omega, rfl, HB2.out, Keeps.refl _ _⟩
  case round =>
    clear HB2
    obtain ⟨j, hj, rfl, hB, hkr⟩ := hrel
    by_cases hlt : j < P
    · have hj0 : (0 : Int) ≤ (j : Int) := by omega
      have hj1 : (j : Int) < (P : Int) := by omega
      have p1 := (hB.out j hlt).1
      have p2 := (hB.out j hlt).2
      have i2 := fun w => HI.out j w hlt
      have hB' := hB.out.set (k := j) (f' := fun i => if i < j + 1 then G (asgN n i) else false) (G (asgN n j)) (by simp) (fun i _ hi => by
        by_cases hij : i < j
        · rw [if_pos hij, if_pos (by omega)]
        · rw [if_neg hij, if_neg (by omega)])
      have HB' : Hid (Bytes8 (wr.setCell ⟨w.heap.size, j, none⟩ (.int .u8 (if G (asgN n j) then 1 else 0))) w.heap.size P (fun i => if i < j + 1 then G (asgN n i) else false)) := hB'
      clear hB' hB
      have hjn : j < 2 ^ n := by rw [← HPP.out]; exact hlt
      have hcr := hkr.cell (hkY.cell hc (by simp)) (by simp [Nat.ne_of_lt (cell_lt (p := ⟨r, 0, none⟩) hc)])
      have l3 := putBit_lt hn8 hjn (show n - 1 - u < n by omega) (j.testBit (n - 1 - v))
      have l4 := putBit_lt hn8 l3 (show n - 1 - v < n by omega) (j.testBit (n - 1 - u))
      have HQ : Hid (∀ w', w'.cell? ⟨r, 0, none⟩ = some (.int .i64 (n : Int)) → (∀ x : Nat, x < n → Calls Tryz.prog 88 #[.pointer (some ⟨r, 0, none⟩), .int .i64 (j : Int), .int .i64 (x : Int)] w' fun e w'' => e = .returned (.int .i64 (bI (j.testBit (n - 1 - x)))) ∧ w'' = w')) := fun w' hc' x hx => by
        refine (rbit_any hn8 hc' hjn hx).mono ?_
        rintro e w'' ⟨rfl, rfl⟩
        exact ⟨rfl, rfl⟩
      have HR : Hid (∀ w', w'.cell? ⟨r, 0, none⟩ = some (.int .i64 (n : Int)) → (∀ (y x : Nat) (b : Bool), y < 2 ^ n → x < n → Calls Tryz.prog 90 #[.pointer (some ⟨r, 0, none⟩), .int .i64 (y : Int), .int .i64 (x : Int), .int .i64 (bI b)] w' fun e w'' => e = .returned (.int .i64 ((putBit y (n - 1 - x) b : Nat) : Int)) ∧ w'' = w')) := fun w' hc' y x b hy hx => by
        refine (rwith_any hn8 hc' hy hx b).mono ?_
        rintro e w'' ⟨rfl, rfl⟩
        exact ⟨rfl, rfl⟩
      have HL3 : Hid (putBit j (n - 1 - u) (j.testBit (n - 1 - v)) < 2 ^ n) := l3
      have HJN : Hid (j < 2 ^ n) := hjn
      have i3 := fun w => HI.out (swapBit n j u v) w (by rw [HPP.out]; exact l4)
      have HGj : G (asgN n j) = F (asgN n (swapBit n j u v)) := HG.out j hjn
      rw [← HGj] at i3
      clear HGj l3 l4 i2
      have hk0 : (0 : Int) ≤ ((swapBit n j u v : Nat) : Int) := by omega
      have hcr' := fun q => ((Keeps.refl [] wr).drewN q).cell hcr (by simp)
      go_wp2_with fail
      refine (HQ.out _ hcr _ hv).mono ?_
      rintro e w' ⟨rfl, rfl⟩
      go_wp2_with fail
      refine (HR.out _ hcr _ _ _ HJN.out hu).mono ?_
      rintro e w' ⟨rfl, rfl⟩
      go_wp2_with fail
      refine (HQ.out _ hcr _ hu).mono ?_
      rintro e w' ⟨rfl, rfl⟩
      go_wp2_with fail
      refine (HR.out _ hcr _ _ _ HL3.out hv).mono ?_
      rintro e w' ⟨rfl, rfl⟩
      have es : putBit (putBit j (n - 1 - u) (j.testBit (n - 1 - v))) (n - 1 - v) (j.testBit (n - 1 - u)) = swapBit n j u v := rfl
      rw [es]
      generalize swapBit n j u v = K at *
      cases hy : G (asgN n j) with
      | true =>
        rw [hy] at i3 HB'
        simp only [bI] at i3
        clear hy
        go_wp2_with fail
        go_roundw
        case rel => exact ⟨j + 1, by omega, by go_num, HB'.out, hkr.setCell _ (Or.inl (by simp)) _⟩
        case measure => simp [intOf]; omega
      | false =>
        rw [hy] at i3 HB'
        simp only [bI] at i3
        clear hy
        go_wp2_with fail
        go_roundw
        case rel => exact ⟨j + 1, by omega, by go_num, HB'.out, hkr.setCell _ (Or.inl (by simp)) _⟩
        case measure => simp [intOf]; omega
    · have ej : j = P := by omega
      subst ej
      have hjj : ¬ (j : Int) < (j : Int) := by omega
      have hconv := (HPP.out ▸ hB.out : Bytes8 wr w.heap.size (2 ^ n) (fun i => if i < 2 ^ n then G (asgN n i) else false)).text (F := G) (fun i hi => by simp only [hi, if_true]) (2 ^ n)
      rw [← HPP.out] at hconv
      have hkw : Keeps [] w wr := ((hkY.mono (by simp)).trans hkr).strike (by simp)
      have hcall := HH.out wr hkw
      clear hB
      go_wp2_with fail
      refine hcall.mono ?_
      rintro e w3 ⟨x, y, rfl, hR⟩
      go_wp2_with fail
      go_ret2
      exact ⟨x, y, rfl, hR⟩

end Go.Proofs.YtmgjegokkbghlaaGreat

namespace Go.Proofs.YtmgjegokkbghlaaGreat
open Go.RowKit Go.Maps Bdd
set_option linter.unusedVariables false
attribute [local go_sem ↓] Go.wp_at_zero Go.wp_at_succ

/-- numbers that came in -/
def IntsAt (w : World) (a : Option Addr) (n : Nat) (f : Nat → Int) : Prop := n = 0 ∨ ∃ vb vo, a = some ⟨vb, vo, none⟩ ∧ ∀ i, i < n → w.cell? ⟨vb, vo + i, none⟩ = some (.int .i64 (f i))
theorem IntsAt.keeps {w w' : World} {a : Option Addr} {n : Nat} {f : Nat → Int} (h : IntsAt w a n f) (hk : Keeps [] w w') : IntsAt w' a n f := by
  rcases h with h | ⟨vb, vo, e, h⟩
  · exact Or.inl h
  · exact Or.inr ⟨vb, vo, e, fun i hi => hk.cell (h i hi) (by simp)⟩

/-- true for some value of a variable -/
def ex1 (v : Int) (F : (Int → Bool) → Bool) : (Int → Bool) → Bool := fun a => F (setAt a v false) || F (setAt a v true)
/-- of each of the first variables of a list -/
def exs (f : Nat → Int) (F : (Int → Bool) → Bool) : Nat → (Int → Bool) → Bool
  | 0 => F
  | j + 1 => ex1 (f j) (exs f F j)

theorem ex1_text {n : Nat} (hn8 : n ≤ 8) {F : (Int → Bool) → Bool} (hF : ∀ a b, (∀ i, 0 ≤ i → i < (n : Int) → a i = b i) → F a = F b) {v : Nat} (hv : v < n) : ∀ i, i < 2 ^ n → ex1 (v : Int) F (asgN n i) = (F (asgN n (putBit i (n - 1 - v) false)) || F (asgN n (putBit i (n - 1 - v) true))) := by
  intro i hi
  unfold ex1
  rw [hF _ (asgN n (putBit i (n - 1 - v) false)) (fun u h0 h1 => (asg_put hn8 hi hv false u h0 h1).symm), hF _ (asgN n (putBit i (n - 1 - v) true)) (fun u h0 h1 => (asg_put hn8 hi hv true u h0 h1).symm)]
theorem ex1_dep {n : Nat} {F : (Int → Bool) → Bool} (hF : ∀ a b, (∀ i, 0 ≤ i → i < (n : Int) → a i = b i) → F a = F b) (v : Int) : ∀ a b, (∀ i, 0 ≤ i → i < (n : Int) → a i = b i) → ex1 v F a = ex1 v F b := by
  intro a b hab
  unfold ex1
  have key : ∀ x, F (setAt a v x) = F (setAt b v x) := fun x => hF _ _ (fun i h0 h1 => by
    unfold setAt
    by_cases e : i = v
    · rw [if_pos e, if_pos e]
    · rw [if_neg e, if_neg e]; exact hab i h0 h1)
  rw [key, key]
theorem exs_dep {n : Nat} {F : (Int → Bool) → Bool} (hF : ∀ a b, (∀ i, 0 ≤ i → i < (n : Int) → a i = b i) → F a = F b) (f : Nat → Int) : ∀ j, ∀ a b, (∀ i, 0 ≤ i → i < (n : Int) → a i = b i) → exs f F j a = exs f F j b
  | 0 => hF
  | j + 1 => ex1_dep (exs_dep hF f j) (f j)

set_option maxRecDepth 100000 in
set_option maxHeartbeats 1000000 in
theorem rexists_var {w : World} {r n m cap : Nat} {lv : Value} {hs : List (Int × ByteArray)} {va : Option Addr} {g : Nat → Int} (hc : w.cell? ⟨r, 0, none⟩ = some (.int .i64 (n : Int))) (hh : Held w r lv hs) (hl : hs.length ≤ 60) {f : Int} (hf : IsIn hs f = true) (hm : m ≤ 4611686018427387904) (hv : IntsAt w va m g) (hno : ∃ i, i < m ∧ ¬ (0 ≤ g i ∧ g i < (n : Int))) :
    Calls Tryz.prog 38 #[.pointer (some ⟨r, 0, none⟩), .int .i64 f, .slice va m cap] w fun e w' => e = .returned (.tuple #[.int .i64 0, .int .i64 3]) ∧ w = w' := by
  obtain ⟨S, hof⟩ := rof_in hh hl f
  rw [hf] at hof
  have hm' : (m : Int) ≤ 4611686018427387904 := by omega
  have HV : Hid (IntsAt w va m g) := hv
  have HNO : Hid (∃ i, i < m ∧ ¬ (0 ≤ g i ∧ g i < (n : Int))) := hno
  have HIS : Hid (∀ v : Int, Calls Tryz.prog 87 #[.pointer (some ⟨r, 0, none⟩), .int .i64 v] w fun e w' => e = .returned (.bool (decide (0 ≤ v ∧ v < (n : Int)))) ∧ w = w') := fun v => risvar_some hc v
  clear hh hf hv hno
  go_enter Tryz.func38, Tryz.ntmps38
  go_wp2_with fail
  refine hof.mono ?_
  rintro e w0 ⟨rfl, rfl⟩
  go_wp2_with fail
  go_loopw [10] (fun x wr => ∃ j : Nat, j ≤ m ∧ x = .int .i64 j ∧ (∀ i, i < j → 0 ≤ g i ∧ g i < (n : Int)) ∧ w = wr) (fun x _ => m - (intOf x).toNat)
  case atStart => exact ⟨0, by omega, rfl, fun i hi => by omega, rfl⟩
  case round =>
    obtain ⟨j, hj, rfl, hall, rfl⟩ := hrel
    by_cases hlt : j < m
    · have hj0 : (0 : Int) ≤ (j : Int) := by omega
      have hj1 : (j : Int) < (m : Int) := by omega
      obtain ⟨vb, vo, ea, hcs⟩ : ∃ vb vo, va = some ⟨vb, vo, none⟩ ∧ ∀ i, i < m → w.cell? ⟨vb, vo + i, none⟩ = some (.int .i64 (g i)) := by
        rcases HV.out with h | h
        · omega
        · exact h
      subst ea
      have p1 := hcs j hlt
      have hi := HIS.out (g j)
      have HALL : Hid (∀ i, i < j → 0 ≤ g i ∧ g i < (n : Int)) := hall
      have HGJ : Hid ((0 ≤ g j ∧ g j < (n : Int)) ∨ ¬ (0 ≤ g j ∧ g j < (n : Int))) := Classical.em _
      clear hcs hall
      go_wp2_with fail
      refine hi.mono ?_
      rintro e w1 ⟨rfl, rfl⟩
      rcases HGJ.out with hg | hg
      · rw [decide_eq_true hg]
        have HG2 : Hid (0 ≤ g j ∧ g j < (n : Int)) := hg
        clear hg
        go_wp2_with fail
        go_roundw
        case rel =>
          refine ⟨j + 1, by omega, by go_num, fun i hi' => ?_, by first | rfl | trivial⟩
          by_cases e : i = j
          · subst e; exact HG2.out
          · exact HALL.out i (by omega)
        case measure => simp [intOf]; omega
      · rw [decide_eq_false hg]
        clear hg
        go_wp2_with fail
        go_ret2
        exact ⟨rfl, by first | rfl | trivial⟩
    · exfalso
      obtain ⟨i, hi, hn⟩ := HNO.out
      exact hn (hall i (by omega))

set_option maxRecDepth 100000 in
set_option maxHeartbeats 4000000 in
theorem rexists_any {w : World} {r n m cap : Nat} {lv : Value} {hs : List (Int × ByteArray)} {va : Option Addr} {g : Nat → Int} (hn8 : n ≤ 8) (hc : w.cell? ⟨r, 0, none⟩ = some (.int .i64 (n : Int))) (hh : Held w r lv hs) (hl : hs.length ≤ 60) {f : Int} {F : (Int → Bool) → Bool} (hf : HasT n hs f F) (hF : ∀ a b, (∀ i, 0 ≤ i → i < (n : Int) → a i = b i) → F a = F b) (hm : m ≤ 4611686018427387904) (hv : IntsAt w va m g) (hall : ∀ i, i < m → 0 ≤ g i ∧ g i < (n : Int)) {R : Int → Int → World → Prop} (hhold : HoldsR w r (txt n (exs g F m)) R) :
    Calls Tryz.prog 38 #[.pointer (some ⟨r, 0, none⟩), .int .i64 f, .slice va m cap] w fun e w' => ∃ x y, e = .returned (.tuple #[.int .i64 x, .int .i64 y]) ∧ R x y w' := by
  obtain ⟨i5, hi5, hz0, hz1, hz2⟩ := info_parts infoByte
  have h256 : 2 ^ n ≤ 256 := by
    have : 2 ^ n ≤ 2 ^ 8 := Nat.pow_le_pow_right (by omega) hn8
    omega
  have HMB : Hid (∀ w : World, (Instr.makeSlice 111 (.int .i64 ((2 ^ n : Nat) : Int)) (.int .i64 ((2 ^ n : Nat) : Int))).run Tryz.prog w = .ok (.slice (some ⟨w.heap.size, 0, none⟩) (2 ^ n) (2 ^ n)) (w.alloc (.cells (fillV (.int .u8 0) (2 ^ n)) 5))) := make_bytes hi5 hz0 hz1 hz2 h256
  have HH : Hid (HoldsR w r (txt n (exs g F m)) R) := hhold
  obtain ⟨p, hf1, hf2⟩ := hf
  have hof := rof_some (n := n) (F := F) hh hl hf1 hf2
  have HIS : Hid (∀ v : Int, Calls Tryz.prog 87 #[.pointer (some ⟨r, 0, none⟩), .int .i64 v] w fun e w' => e = .returned (.bool (decide (0 ≤ v ∧ v < (n : Int)))) ∧ w = w') := fun v => risvar_some hc v
  obtain ⟨P, hP⟩ : ∃ P : Nat, P = 2 ^ n := ⟨_, rfl⟩
  have HSZ : Hid (∀ w1, w1.cell? ⟨r, 0, none⟩ = some (.int .i64 (n : Int)) → Calls Tryz.prog 84 #[.pointer (some ⟨r, 0, none⟩)] w1 fun e w' => e = .returned (.int .i64 (P : Int)) ∧ w1 = w') := fun w1 h1 => by rw [hP]; exact rsize_any hn8 h1
  rw [← hP] at HMB h256
  have HPP : Hid (P = 2 ^ n) := hP
  have hP0 : (0 : Int) ≤ (P : Int) := by omega
  have hP1 : (P : Int) ≤ 256 := by omega
  have hm' : (m : Int) ≤ 4611686018427387904 := by omega
  have HV : Hid (IntsAt w va m g) := hv
  have HALL : Hid (∀ i, i < m → 0 ≤ g i ∧ g i < (n : Int)) := hall
  have HD : Hid (∀ j, ∀ a b, (∀ i, 0 ≤ i → i < (n : Int) → a i = b i) → exs g F j a = exs g F j b) := exs_dep hF g
  have hlr : r < w.heap.size := cell_lt (p := ⟨r, 0, none⟩) hc
  have e0 : txt n F = txt n (exs g F 0) := rfl
  rw [e0] at hof
  have HOF : Hid (Calls Tryz.prog 42 #[.pointer (some ⟨r, 0, none⟩), .int .i64 f] w fun e w' => e = .returned (.tuple #[.string (txt n (exs g F 0)), .bool true]) ∧ w = w') := hof
  clear hhold hi5 hz0 hz1 hz2 hP hf1 hf2 hh hv hall hF hof e0
  go_enter Tryz.func38, Tryz.ntmps38
  go_wp2_with fail
  refine HOF.out.mono ?_
  rintro e w0 ⟨rfl, rfl⟩
  obtain ⟨S0, hS0⟩ : ∃ S0, S0 = txt n (exs g F 0) := ⟨_, rfl⟩
  rw [← hS0]
  have HS0 : Hid (S0 = txt n (exs g F 0)) := hS0
  clear hS0
  go_wp2_with fail
  go_loopw [10] (fun x wr => ∃ j : Nat, j ≤ m ∧ x = .int .i64 j ∧ w = wr) (fun x _ => m - (intOf x).toNat)
  case atStart => exact ⟨0, by omega, rfl, rfl⟩
  case round =>
    obtain ⟨j, hj, rfl, rfl⟩ := hrel
    by_cases hlt : j < m
    · have hj0 : (0 : Int) ≤ (j : Int) := by omega
      have hj1 : (j : Int) < (m : Int) := by omega
      obtain ⟨vb, vo, ea, hcs⟩ : ∃ vb vo, va = some ⟨vb, vo, none⟩ ∧ ∀ i, i < m → w.cell? ⟨vb, vo + i, none⟩ = some (.int .i64 (g i)) := by
        rcases HV.out with h | h
        · omega
        · exact h
      subst ea
      have p1 := hcs j hlt
      have hi := HIS.out (g j)
      rw [decide_eq_true (HALL.out j hlt)] at hi
      clear hcs
      go_wp2_with fail
      refine hi.mono ?_
      rintro e w1 ⟨rfl, rfl⟩
      go_wp2_with fail
      go_roundw
      case rel => exact ⟨j + 1, by omega, by go_num, by first | rfl | trivial⟩
      case measure => simp [intOf]; omega
    · have hj1 : (m : Int) ≤ (j : Int) := by omega
      go_wp2_with fail
      clear hlt hj1 hj
      go_loopw [8, 12] (fun s x wr => ∃ (j : Nat) (S : ByteArray), j ≤ m ∧ x = .int .i64 j ∧ s = .string S ∧ Hid (S = txt n (exs g F j)) ∧ Keeps [] w wr) (fun _ x _ => m - (intOf x).toNat)
      case atStart => exact ⟨0, S0, by omega, rfl, rfl, HS0.out, Keeps.refl _ _⟩
      case round =>
        clear HS0
        obtain ⟨j, S, hj, rfl, rfl, hS, hkw⟩ := hrel
        obtain ⟨w9, ew9⟩ : ∃ w9, w9 = wr := ⟨_, rfl⟩
        subst ew9
        have hcr := hkw.cell hc (by simp)
        by_cases hlt : j < m
        · have hj0 : (0 : Int) ≤ (j : Int) := by omega
          have hj1 : (j : Int) < (m : Int) := by omega
          obtain ⟨vb, vo, ea, hcs⟩ : ∃ vb vo, va = some ⟨vb, vo, none⟩ ∧ ∀ i, i < m → w.cell? ⟨vb, vo + i, none⟩ = some (.int .i64 (g i)) := by
            rcases HV.out with h | h
            · omega
            · exact h
          subst ea
          obtain ⟨v, hv⟩ := Int.eq_ofNat_of_zero_le (HALL.out j hlt).1
          have hvn : v < n := by have := (HALL.out j hlt).2; omega
          have p1 := hkw.cell (hcs j hlt) (by simp)
          rw [hv] at p1
          have HVJ : Hid (g j = (v : Int)) := hv
          have hlv : vb < w9.heap.size := cell_lt p1
          have hlr2 : r < w9.heap.size := cell_lt hcr
          clear hcs hv
          go_wp2_with fail
          refine (HSZ.out _ hcr).mono ?_
          rintro e w1 ⟨rfl, rfl⟩
          go_wp2_with (first
            | (at_make; refine wpList_make_at rfl _ _ 111 rfl (.int .i64 (P : Int)) (.int .i64 (P : Int)) _ rfl rfl (HMB.out _) ?_)
            | fail)
          obtain ⟨Y, hY⟩ : ∃ Y, Y = w9.alloc (Obj.cells (fillV (Value.int .u8 0) P) 5) := ⟨_, rfl⟩
          rw [← hY]
          have hkY : Keeps [] w9 Y := by rw [hY]; exact (Keeps.refl _ _).alloc _
          have HB2 : Hid (Bytes8 Y w9.heap.size P (fun i => if i < 0 then exs g F (j + 1) (asgN n i) else false)) := fun k hk => by
            rw [hY]
            exact ⟨cell_new w9 _ _ rfl (fillV_get _ hk), World.frozen?_alloc_at _ _ _ _ rfl⟩
          clear hY
          go_loopw [14] (fun i wq => ∃ q : Nat, q ≤ P ∧ i = .int .i64 q ∧ Hid (Bytes8 wq w9.heap.size P (fun i => if i < q then exs g F (j + 1) (asgN n i) else false)) ∧ Keeps [w9.heap.size] Y wq) (fun i _ => P - (intOf i).toNat)
          case atStart => exact ⟨0, by omega, rfl, HB2.out, Keeps.refl _ _⟩
          case round =>
            clear HB2
            obtain ⟨q, hq, rfl, hB, hkq⟩ := hrel
            have hcq := hkq.cell (hkY.cell hcr (by simp)) (by simp; omega)
            have pq := hkq.cell (hkY.cell p1 (by simp)) (by simp; omega)
            by_cases hlq : q < P
            · have hq0 : (0 : Int) ≤ (q : Int) := by omega
              have hq1 : (q : Int) < (P : Int) := by omega
              have b1 := (hB.out q hlq).1
              have b2 := (hB.out q hlq).2
              have hqn : q < 2 ^ n := by rw [← HPP.out]; exact hlq
              have hB' := hB.out.set (k := q) (f' := fun i => if i < q + 1 then exs g F (j + 1) (asgN n i) else false) (exs g F (j + 1) (asgN n q)) (by simp) (fun i _ hi => by
                by_cases hij : i < q
                · rw [if_pos hij, if_pos (by omega)]
                · rw [if_neg hij, if_neg (by omega)])
              have l0 := putBit_lt hn8 hqn (show n - 1 - v < n by omega) false
              have l1 := putBit_lt hn8 hqn (show n - 1 - v < n by omega) true
              have i0 := fun w => txt_index (exs g F j) l0 w
              have i1 := fun w => txt_index (exs g F j) l1 w
              rw [← hS.out] at i0 i1
              have hX : exs g F (j + 1) (asgN n q) = (exs g F j (asgN n (putBit q (n - 1 - v) false)) || exs g F j (asgN n (putBit q (n - 1 - v) true))) := by
                show ex1 (g j) (exs g F j) (asgN n q) = _
                rw [HVJ.out]
                exact ex1_text hn8 (HD.out j) hvn q hqn
              rw [hX] at hB'
              have c0 := rwith_any (w := wr) hn8 hcq hqn hvn false
              have c1 := rwith_any (w := wr) hn8 hcq hqn hvn true
              have w0' : Calls Tryz.prog 90 #[.pointer (some ⟨r, 0, none⟩), .int .i64 (q : Int), .int .i64 (v : Int), .int .i64 0] wr fun e w' => e = .returned (.int .i64 ((putBit q (n - 1 - v) false : Nat) : Int)) ∧ wr = w' := c0
              have w1' : Calls Tryz.prog 90 #[.pointer (some ⟨r, 0, none⟩), .int .i64 (q : Int), .int .i64 (v : Int), .int .i64 1] wr fun e w' => e = .returned (.int .i64 ((putBit q (n - 1 - v) true : Nat) : Int)) ∧ wr = w' := c1
              generalize putBit q (n - 1 - v) false = q0 at *
              generalize putBit q (n - 1 - v) true = q1 at *
              have k0 : (0 : Int) ≤ (q0 : Int) := by omega
              have k1 : (0 : Int) ≤ (q1 : Int) := by omega
              obtain ⟨x0, hx0⟩ : ∃ x0, x0 = exs g F j (asgN n q0) := ⟨_, rfl⟩
              obtain ⟨x1, hx1⟩ : ∃ x1, x1 = exs g F j (asgN n q1) := ⟨_, rfl⟩
              rw [← hx0] at i0 hB'
              rw [← hx1] at i1 hB'
              have HB' : Hid (Bytes8 (wr.setCell ⟨w9.heap.size, q, none⟩ (.int .u8 (if (x0 || x1) then 1 else 0))) w9.heap.size P (fun i => if i < q + 1 then exs g F (j + 1) (asgN n i) else false)) := hB'
              have HW0 := w0'
              have HW1 := w1'
              have ht := rtruth_any (w := wr) (x0 || x1)
              clear hB' hB hX c0 c1 w0' w1' hx0 hx1 l0 l1
              go_wp2_with fail
              refine HW0.mono ?_
              rintro e w2 ⟨rfl, rfl⟩
              go_wp2_with fail
              refine HW1.mono ?_
              rintro e w2 ⟨rfl, rfl⟩
              cases x0 <;> cases x1 <;> simp only [bI, Bool.or_true, Bool.or_false, if_true, Bool.or_self, Bool.false_eq_true, if_false] at i0 i1 ht HB' <;>
                (go_wp2_with fail
                 refine ht.mono ?_
                 rintro e w2 ⟨rfl, rfl⟩
                 go_wp2_with fail
                 go_roundw
                 case rel => exact ⟨q + 1, by omega, by go_num, HB'.out, hkq.setCell _ (Or.inl (by simp)) _⟩
                 case measure => simp [intOf]; omega)
            · have eq' : q = P := by omega
              subst eq'
              have hjj : ¬ (q : Int) < (q : Int) := by omega
              have hconv := (HPP.out ▸ hB.out : Bytes8 wr w9.heap.size (2 ^ n) (fun i => if i < 2 ^ n then exs g F (j + 1) (asgN n i) else false)).text (F := exs g F (j + 1)) (fun i hi => by simp only [hi, if_true]) (2 ^ n)
              rw [← HPP.out] at hconv
              have hkw2 : Keeps [] w wr := ((hkw.trans hkY).mono (by simp)).trans hkq |>.strike (fun i hi hlt2 => by simp at hi; subst hi; have := hkw.size; omega)
              obtain ⟨S1, hS1⟩ : ∃ S1, S1 = txt n (exs g F (j + 1)) := ⟨_, rfl⟩
              rw [← hS1] at hconv
              have HS1 : Hid (S1 = txt n (exs g F (j + 1))) := hS1
              clear hB hS1
              go_wp2_with fail
              go_roundw
              case rel => exact ⟨j + 1, S1, by omega, by go_num, rfl, HS1.out, hkw2⟩
              case measure => simp [intOf]; omega
        · have hj1 : (m : Int) ≤ (j : Int) := by omega
          have ej : j = m := by omega
          have hcall := HH.out w9 hkw
          rw [← ej, ← hS.out] at hcall
          clear ej
          go_wp2_with fail
          refine hcall.mono ?_
          rintro e w3 ⟨x, y, rfl, hR⟩
          go_wp2_with fail
          go_ret2
          exact ⟨x, y, rfl, hR⟩

end Go.Proofs.YtmgjegokkbghlaaGreat

namespace Go.Proofs.YtmgjegokkbghlaaGreat
open Go.RowKit Go.Maps Bdd
set_option linter.unusedVariables false
attribute [local go_sem ↓] Go.wp_at_zero Go.wp_at_succ

/-- the digits of a number, as a list has them -/
def digB (n i k : Nat) : List Value := (List.range k).map fun v : Nat => .bool (asgN n i (v : Int))
theorem digB_succ (n i k : Nat) : digB n i (k + 1) = digB n i k ++ [.bool (asgN n i (k : Int))] := by simp [digB, List.range_succ]

set_option maxRecDepth 100000 in
set_option maxHeartbeats 1000000 in
theorem rleast_any {w : World} {r n : Nat} {lv : Value} {hs : List (Int × ByteArray)} (hn8 : n ≤ 8) (hc : w.cell? ⟨r, 0, none⟩ = some (.int .i64 (n : Int))) (hh : Held w r lv hs) (hl : hs.length ≤ 60) {f : Int} {F : (Int → Bool) → Bool} (hf : HasT n hs f F) :
    Calls Tryz.prog 60 #[.pointer (some ⟨r, 0, none⟩), .int .i64 f] w fun e w' => Keeps [] w w' ∧ (((∀ i, i < 2 ^ n → F (asgN n i) = false) ∧ e = .returned (.tuple #[.slice none 0 0, .int .i64 0])) ∨
      ∃ i v, i < 2 ^ n ∧ F (asgN n i) = true ∧ (∀ k, k < i → F (asgN n k) = false) ∧ e = .returned (.tuple #[v, .int .i64 0]) ∧ w'.ownsRow w.heap.size 4 1 v n (digB n i n)) := by
  obtain ⟨i4, hi4, z40, z41, z42⟩ := info_parts info4
  have hml : 1000 < maxLen := by decide
  obtain ⟨p, hf1, hf2⟩ := hf
  have hof := rof_some (n := n) (F := F) hh hl hf1 hf2
  obtain ⟨S, hS⟩ : ∃ S, S = txt n F := ⟨_, rfl⟩
  obtain ⟨P, hP⟩ : ∃ P : Nat, P = 2 ^ n := ⟨_, rfl⟩
  have h256 : P ≤ 256 := by
    have : 2 ^ n ≤ 2 ^ 8 := Nat.pow_le_pow_right (by omega) hn8
    omega
  have HI : Hid (∀ (i : Nat) (w : World), i < P → (Instr.index 9 (.string S) (.int .i64 (i : Int))).run Tryz.prog w = .ok (.int .u8 (bI (F (asgN n i)))) w) := fun i w hi => by rw [hS]; exact txt_index F (by omega) w
  have hlen : ∀ ty (w : World), (Builtin.len_ #[9] ty #[.string S]).run Tryz.prog w = .ok (goInt (P : Int)) w := fun ty w => by rw [run_len_string w 9 ty S Tryz.underlying9, hS, txt_size, hP]
  rw [← hS] at hof
  have HPP : Hid (P = 2 ^ n) := hP
  have hP0 : (0 : Int) ≤ (P : Int) := by omega
  have hP1 : (P : Int) ≤ 256 := by omega
  have hn0 : (0 : Int) ≤ (n : Int) := by omega
  have hn9 : (n : Int) ≤ 8 := by omega
  clear hS hP hf1 hf2 hh
  go_enter Tryz.func60, Tryz.ntmps60
  go_wp2_with fail
  refine hof.mono ?_
  rintro e w0 ⟨rfl, rfl⟩
  go_wp2_with fail
  go_loopw [8] (fun x wr => ∃ j : Nat, j ≤ P ∧ x = .int .i64 j ∧ Hid (∀ k, k < j → F (asgN n k) = false) ∧ w = wr) (fun x _ => P - (intOf x).toNat)
  case atStart => exact ⟨0, by omega, rfl, fun k hk => by omega, rfl⟩
  case round =>
    obtain ⟨j, hj, rfl, hall, rfl⟩ := hrel
    by_cases hlt : j < P
    · have hj0 : (0 : Int) ≤ (j : Int) := by omega
      have hj1 : (j : Int) < (P : Int) := by omega
      have i2 := fun w => HI.out j w hlt
      have HFJ : Hid (F (asgN n j) = true ∨ F (asgN n j) = false) := by cases F (asgN n j) <;> simp [Hid]
      rcases HFJ.out with hy | hy
      · have HY : Hid (F (asgN n j) = true) := hy
        rw [hy] at i2
        simp only [bI] at i2
        clear hy HFJ
        have hjn : j < 2 ^ n := by rw [← HPP.out]; exact hlt
        go_wp2_with fail
        go_loopw [9, 10] (fun o x wr => ∃ k : Nat, k ≤ n ∧ x = .int .i64 k ∧ wr.ownsRow w.heap.size 4 1 o k (digB n j k) ∧ Keeps [] w wr) (fun _ x _ => n - (intOf x).toNat)
        case atStart => exact ⟨0, by omega, rfl, World.ownsRow_nil _ _ _ _, Keeps.refl _ _⟩
        case round =>
          obtain ⟨k, hk, rfl, hown, hkw⟩ := hrel
          have hcr := hkw.cell hc (by simp)
          by_cases hlk : k < n
          · have hk0 : (0 : Int) ≤ (k : Int) := by omega
            have hk1 : (k : Int) < (n : Int) := by omega
            have hb := rbit_any (w := wr) hn8 hcr hjn hlk
            have hsz := hkw.size
            obtain ⟨b, hb'⟩ : ∃ b, b = j.testBit (n - 1 - k) := ⟨_, rfl⟩
            rw [← hb'] at hb
            have HBB : Hid (b = asgN n j (k : Int)) := by
              show b = asgN n j (k : Int)
              rw [hb']
              unfold asgN
              rw [Int.toNat_natCast]
            clear hb'
            go_wp2_with fail
            refine hb.mono ?_
            rintro e w1 ⟨rfl, rfl⟩
            cases b <;> simp only [bI] <;>
              (go_wp2_with (first
                | (at_builtin; refine wpList_append_own_at _ rfl _ _ 32 rfl w.heap.size 4 i4 (.bool false) 1 1 Tryz.underlying32 hi4 z40 z41 z42 rfl (by decide) _ k (digB n j k) rfl (hown.alloc _) ⟨wr.heap.size, 0, none⟩ 1 1 [.bool _] rfl rfl (cell_one_new _ _ _) (by simp [Value.oneCell']) (by omega) (by omega) (by simp; omega) ?_; intro v' w2 hown' hgrow hnil hloc; have kk : Keeps [] w w2 := (hkw.alloc _).grown hgrow (fun q hq => Or.inr (hown.lt q hq).1))
                | fail)
               go_roundw
               case rel => exact ⟨k + 1, by omega, by go_num, by rw [digB_succ, ← HBB.out]; exact hown', kk⟩
               case measure => simp [intOf]; omega)
          · have hk1 : (n : Int) ≤ (k : Int) := by omega
            have ek : k = n := by omega
            subst ek
            have HO : Hid (wr.ownsRow w.heap.size 4 1 u9 k (digB k j k)) := hown
            clear hown
            go_wp2_with fail
            go_ret2
            exact ⟨hkw, Or.inr ⟨j, u9, hjn, HY.out, hall.out, rfl, HO.out⟩⟩
      · have HY : Hid (F (asgN n j) = false) := hy
        rw [hy] at i2
        simp only [bI] at i2
        clear hy HFJ
        go_wp2_with fail
        go_roundw
        case rel =>
          refine ⟨j + 1, by omega, by go_num, fun k hk => ?_, by first | rfl | trivial⟩
          by_cases e : k = j
          · subst e; exact HY.out
          · exact hall.out k (by omega)
        case measure => simp [intOf]; omega
    · have hj1 : (P : Int) ≤ (j : Int) := by omega
      have ej : j = P := by omega
      go_wp2_with fail
      go_ret2
      exact ⟨Keeps.refl _ _, Or.inl ⟨fun i hi => hall.out i (by rw [ej, HPP.out]; exact hi), rfl⟩⟩

set_option maxRecDepth 100000 in
set_option maxHeartbeats 1000000 in
theorem rsizeof_any {N : Tab} {last : Int} {n : Nat} {w : World} {r : Nat} {lim la : Int} {ov lv : Value} {o : Ord n} {hs : List (Int × ByteArray)} {y f : Int} (hw : Wf N (n : Int) last) (hn8 : n ≤ 8) (h : RSt w r n lim la ov lv o hs) (hl : hs.length ≤ 60) (hy : Ok N 0 y) (hf : HasT n hs f (FV N o y)) :
    Calls Tryz.prog 62 #[.pointer (some ⟨r, 0, none⟩), .int .i64 f] w fun e w' => e = .returned (.tuple #[.int .i64 ((total N n 0 (once [] [y]) : Nat) : Int), .int .i64 0]) ∧ Keeps [] w w' := by
  obtain ⟨p, hf1, hf2⟩ := hf
  have hof := rof_some (n := n) (F := FV N o y) h.held hl hf1 hf2
  obtain ⟨ob, ocap, eov, hobr, hobl, hord⟩ := h.ord
  subst eov
  have c3 := h.c3
  have c0 := h.c0
  obtain ⟨S, hS⟩ : ∃ S, S = txt n (FV N o y) := ⟨_, rfl⟩
  obtain ⟨C, hC⟩ : ∃ C : Nat, C = total N n 0 (once [] [y]) := ⟨_, rfl⟩
  rw [← hS] at hof
  rw [← hC]
  have HC : Hid (Calls Tryz.prog 97 #[.pointer (some ⟨r, 0, none⟩), .slice (some ⟨w.heap.size, 0, none⟩) 1 1, .slice (some ⟨ob, 0, none⟩) n ocap] (w.alloc (.cells #[.string S] 9)) fun e w' => e = .returned (.int .i64 (C : Int)) ∧ Keeps [] (w.alloc (.cells #[.string S] 9)) w') := by
    have hk : Keeps [] w (w.alloc (.cells #[.string S] 9)) := (Keeps.refl _ _).alloc _
    refine (rcount_any (n := n) (nm := [y]) (m := 1) hw hn8 o (hk.cell c0 (by simp)) rfl (by omega) (by omega) (fun z hz => by simp at hz; subst hz; exact hy) (fun j hj => ?_) (fun k hk' => hk.cell (hord k hk') (by simp))).mono ?_
    · have ej : j = 0 := by simp at hj; omega
      subst ej
      rw [cell_new w #[.string S] 9 rfl rfl, hS]
      rfl
    · rintro e w' ⟨rfl, hk'⟩
      rw [hC]
      exact ⟨rfl, hk'⟩
  have hlr : r < w.heap.size := cell_lt (p := ⟨r, 0, none⟩) c0
  clear hS hC hf1 hf2 hord h
  go_enter Tryz.func62, Tryz.ntmps62
  go_wp2_with fail
  refine hof.mono ?_
  rintro e w0 ⟨rfl, rfl⟩
  go_wp2_with fail
  refine HC.out.mono ?_
  rintro e w1 ⟨rfl, hk⟩
  go_wp2_with fail
  go_ret2
  exact ⟨rfl, ((Keeps.refl _ _).alloc _).trans hk⟩

end Go.Proofs.YtmgjegokkbghlaaGreat
