/- The document's store: Constant. The document's store: Not, Choose. The document's store: Choose. The document's store: Apply. The document's store: Variable. The document's store: Value. -/
import Derived.Test.YtmgjegokkbghlaaGreatRefHold
import Derived.Test.YtmgjegokkbghlaaGreatFill
namespace Go.Proofs.YtmgjegokkbghlaaGreat
open Go.RowKit Go.Maps Bdd
attribute [local go_sem ↓] Go.wp_at_zero Go.wp_at_succ

theorem infoByte : (Tryz.prog.info? 5).map (fun i => (i.zero, i.size, i.bytes)) = some (some (.int .u8 0), 1, 1) := by kernel_rfl
/-- a new list of bytes -/
theorem make_bytes {i : TypeInfo} (hi : Tryz.prog.info? 5 = some i) (hz : i.zero = some (.int .u8 0)) (hs : i.size = 1) (hb : i.bytes = 1) {L : Nat} (hL : L ≤ 256) :
    ∀ w : World, (Instr.makeSlice 111 (.int .i64 (L : Int)) (.int .i64 (L : Int))).run Tryz.prog w = .ok (.slice (some ⟨w.heap.size, 0, none⟩) L L) (w.alloc (.cells (fillV (.int .u8 0) L) 5)) := by
  intro w
  have hbb : ((i.bytes : Nat) : Int) * (L : Int) ≤ 281474976710656 := by rw [hb]; omega
  have := run_make (P := Tryz.prog) w 111 5 i (.int .u8 0) Tryz.underlying111 hi hz .i64 .i64 (L : Int) (L : Int) (by omega) (by omega) hbb (by omega)
  rw [hs, Int.toNat_natCast, made_fill _ rfl] at this
  exact this
/-- a list of bytes that is being written -/
def Bytes8 (w : World) (B L : Nat) (f : Nat → Bool) : Prop := ∀ i : Nat, i < L → w.cell? ⟨B, i, none⟩ = some (.int .u8 (if f i then 1 else 0)) ∧ w.frozen? ⟨B, i, none⟩ = false
theorem Bytes8.set {w : World} {B L : Nat} {f f' : Nat → Bool} (h : Bytes8 w B L f) {k : Nat} (x : Bool) (hx : f' k = x) (hf : ∀ i, i < L → i ≠ k → f' i = f i) : Bytes8 (w.setCell ⟨B, k, none⟩ (.int .u8 (if x then 1 else 0))) B L f' := by
  intro i hi
  refine ⟨?_, by rw [World.frozen?_setCell]; exact (h i hi).2⟩
  by_cases e : i = k
  · subst e
    rw [World.cell?_setCell_same _ _ _ (h i hi).1, hx]
  · rw [World.cell?_setCell_other _ _ _ _ (by first | (simp; done) | (simp; omega)), (h i hi).1, hf i hi e]
theorem Bytes8.text {w : World} {B n : Nat} {F : (Int → Bool) → Bool} {f : Nat → Bool} (h : Bytes8 w B (2 ^ n) f) (hf : ∀ i, i < 2 ^ n → f i = F (asgN n i)) (cap : Nat) : (convert 111 9 (.slice (some ⟨B, 0, none⟩) (2 ^ n) cap)).run Tryz.prog w = .ok (.string (txt n F)) w := by
  have hl : ((List.range (2 ^ n)).map fun i => if F (asgN n i) then (1 : UInt8) else 0).length = 2 ^ n := by simp
  have := run_convert_bytes_back (P := Tryz.prog) w 111 9 5 ⟨B, 0, none⟩ cap ((List.range (2 ^ n)).map fun i => if F (asgN n i) then (1 : UInt8) else 0) Tryz.underlying111 Tryz.underlying5 Tryz.underlying9 (fun i hi => by
    have hij : i < 2 ^ n := by omega
    rw [Addr.add_mid, Nat.zero_add, (h i hij).1, hf i hij]
    simp only [List.getElem_map, List.getElem_range]
    cases F (asgN n i) <;> rfl)
  rw [hl] at this
  exact this
/-- hold, as the calls that make a function meet it -/
def HoldsR (w : World) (r : Nat) (S : ByteArray) (R : Int → Int → World → Prop) : Prop := ∀ w1, Keeps [] w w1 → Calls Tryz.prog 86 #[.pointer (some ⟨r, 0, none⟩), .string S] w1 fun e w' => ∃ x y, e = .returned (.tuple #[.int .i64 x, .int .i64 y]) ∧ R x y w'

theorem pow_wrap {n : Nat} (hn8 : n ≤ 8) : wrap64 ((2 : Int) ^ n) = ((2 ^ n : Nat) : Int) := by
  have h2 : 2 ^ n ≤ 2 ^ 8 := Nat.pow_le_pow_right (by omega) hn8
  have e : ((2 : Int) ^ n) = ((2 ^ n : Nat) : Int) := by simp
  rw [e]
  generalize 2 ^ n = p at h2
  exact IntWalk.wrap64_in _ ⟨by omega, by omega⟩
set_option maxRecDepth 100000 in
theorem rsize_any {w : World} {r n : Nat} (hn8 : n ≤ 8) (hc : w.cell? ⟨r, 0, none⟩ = some (.int .i64 (n : Int))) : Calls Tryz.prog 84 #[.pointer (some ⟨r, 0, none⟩)] w fun e w' => e = .returned (.int .i64 ((2 ^ n : Nat) : Int)) ∧ w = w' := by
  have hn0 : (0 : Int) ≤ (n : Int) := by omega
  have hn9 : (n : Int) ≤ 8 := by omega
  have HP : Hid (wrap64 ((2 : Int) ^ n) = ((2 ^ n : Nat) : Int)) := pow_wrap hn8
  obtain ⟨P, hP⟩ : ∃ P : Nat, P = 2 ^ n := ⟨_, rfl⟩
  rw [← hP] at HP ⊢
  clear hP
  go_enter Tryz.func84, Tryz.ntmps84
  go_wp2_with fail
  go_ret
  exact ⟨by rw [← HP.out]; rfl, rfl⟩
set_option maxRecDepth 100000 in
theorem rtruth_any {w : World} (b : Bool) : Calls Tryz.prog 85 #[.bool b] w fun e w' => e = .returned (.int .u8 (if b then 1 else 0)) ∧ w = w' := by
  cases b with
  | true =>
    go_enter Tryz.func85, Tryz.ntmps85
    go_wp2_with fail
    go_ret
    exact ⟨rfl, rfl⟩
  | false =>
    go_enter Tryz.func85, Tryz.ntmps85
    go_wp2_with fail
    go_ret
    exact ⟨rfl, rfl⟩

set_option maxRecDepth 100000 in
set_option maxHeartbeats 1000000 in
theorem rconstant_any {w : World} {r n : Nat} (hn8 : n ≤ 8) (hc : w.cell? ⟨r, 0, none⟩ = some (.int .i64 (n : Int))) (b : Bool) {R : Int → Int → World → Prop} (hh : HoldsR w r (txt n (fun _ => b)) R) :
    Calls Tryz.prog 32 #[.pointer (some ⟨r, 0, none⟩), .bool b] w fun e w' => ∃ x y, e = .returned (.tuple #[.int .i64 x, .int .i64 y]) ∧ R x y w' := by
  obtain ⟨i5, hi5, hz0, hz1, hz2⟩ := info_parts infoByte
  have h256 : 2 ^ n ≤ 256 := by
    have : 2 ^ n ≤ 2 ^ 8 := Nat.pow_le_pow_right (by omega) hn8
    omega
  have HMB : Hid (∀ w : World, (Instr.makeSlice 111 (.int .i64 ((2 ^ n : Nat) : Int)) (.int .i64 ((2 ^ n : Nat) : Int))).run Tryz.prog w = .ok (.slice (some ⟨w.heap.size, 0, none⟩) (2 ^ n) (2 ^ n)) (w.alloc (.cells (fillV (.int .u8 0) (2 ^ n)) 5))) := make_bytes hi5 hz0 hz1 hz2 h256
  have HH : Hid (HoldsR w r (txt n (fun _ => b)) R) := hh
  clear hh hi5 hz0 hz1 hz2
  go_enter Tryz.func32, Tryz.ntmps32
  obtain ⟨P, hP⟩ : ∃ P : Nat, P = 2 ^ n := ⟨_, rfl⟩
  have hsz := rsize_any (w := w) hn8 hc
  rw [← hP] at HMB h256 hsz
  have HPP : Hid (P = 2 ^ n) := hP
  have hP0 : (0 : Int) ≤ (P : Int) := by omega
  have hP1 : (P : Int) ≤ 256 := by omega
  clear hP
  go_wp2_with fail
  refine hsz.mono ?_
  rintro e w1 ⟨rfl, rfl⟩
  go_wp2_with (first
    | (at_make; refine wpList_make_at rfl _ _ 111 rfl (.int .i64 (P : Int)) (.int .i64 (P : Int)) _ rfl rfl (HMB.out _) ?_)
    | fail)
  obtain ⟨Y, hY⟩ : ∃ Y, Y = w.alloc (Obj.cells (fillV (Value.int .u8 0) P) 5) := ⟨_, rfl⟩
  rw [← hY]
  have hkY : Keeps [] w Y := by rw [hY]; exact (Keeps.refl _ _).alloc _
  have b2 : Bytes8 Y w.heap.size P (fun i => if i < 0 then b else false) := fun k hk => by
    rw [hY]
    exact ⟨cell_new w _ _ rfl (fillV_get _ hk), World.frozen?_alloc_at _ _ _ _ rfl⟩
  have HB2 : Hid (Bytes8 Y w.heap.size P (fun i => if i < 0 then b else false)) := b2
  clear hY b2
  go_loopw [7] (fun i wr => ∃ j : Nat, j ≤ P ∧ i = .int .i64 j ∧ Hid (Bytes8 wr w.heap.size P (fun i => if i < j then b else false)) ∧ Keeps [w.heap.size] Y wr) (fun i _ => P - (intOf i).toNat)
  case atStart => exact ⟨0, by omega, rfl, HB2.out, Keeps.refl _ _⟩
  case round =>
    clear HB2
    obtain ⟨j, hj, rfl, hB, hkr⟩ := hrel
    by_cases hlt : j < P
    · have hj0 : (0 : Int) ≤ (j : Int) := by omega
      have hj1 : (j : Int) < (P : Int) := by omega
      have p1 := (hB.out j hlt).1
      have p2 := (hB.out j hlt).2
      have hB' := hB.out.set (k := j) (f' := fun i => if i < j + 1 then b else false) b (by simp) (fun i _ hi => by
        by_cases hij : i < j
        · rw [if_pos hij, if_pos (by omega)]
        · rw [if_neg hij, if_neg (by omega)])
      have HB' : Hid (Bytes8 (wr.setCell ⟨w.heap.size, j, none⟩ (.int .u8 (if b then 1 else 0))) w.heap.size P (fun i => if i < j + 1 then b else false)) := hB'
      have htr := rtruth_any (w := wr) b
      generalize (if b then (1 : Int) else 0) = xb at HB' htr
      clear hB' hB
      go_wp2_with fail
      refine htr.mono ?_
      rintro e w2 ⟨rfl, rfl⟩
      go_wp2_with fail
      go_roundw
      case rel => exact ⟨j + 1, by omega, by go_num, HB'.out, hkr.setCell _ (Or.inl (by simp)) _⟩
      case measure => simp [intOf]; omega
    · have ej : j = P := by omega
      subst ej
      have hjj : ¬ (j : Int) < (j : Int) := by omega
      have hconv := (HPP.out ▸ hB.out : Bytes8 wr w.heap.size (2 ^ n) (fun i => if i < 2 ^ n then b else false)).text (F := fun _ => b) (fun i hi => by simp only [hi, if_true]) (2 ^ n)
      rw [← HPP.out] at hconv
      have hkw : Keeps [] w wr := ((hkY.mono (by simp)).trans hkr).strike (by simp)
      have hcall := HH.out wr hkw
      clear hB
      go_wp2_with fail
      refine hcall.mono ?_
      rintro e w3 ⟨x, y, rfl, hR⟩
      go_wp2_with fail
      go_ret2
      exact ⟨x, y, rfl, hR⟩

end Go.Proofs.YtmgjegokkbghlaaGreat

namespace Go.Proofs.YtmgjegokkbghlaaGreat
open Go.RowKit Go.Maps Bdd
attribute [local go_sem ↓] Go.wp_at_zero Go.wp_at_succ

/-- what 'of' gives -/
theorem rof_some {w : World} {r n : Nat} {lv : Value} {hs : List (Int × ByteArray)} (hh : Held w r lv hs) (hl : hs.length ≤ 60) {f : Int} {F : (Int → Bool) → Bool} {p : Int × ByteArray} (hf : hs.find? (fun p => p.1 == f) = some p) (hp : p.2 = txt n F) :
    Calls Tryz.prog 42 #[.pointer (some ⟨r, 0, none⟩), .int .i64 f] w fun e w' => e = .returned (.tuple #[.string (txt n F), .bool true]) ∧ w = w' := by
  have h := rof_any hh hl f
  unfold ofV at h
  rw [hf] at h
  simp only [hp] at h
  exact h

set_option maxRecDepth 100000 in
set_option maxHeartbeats 1000000 in
theorem rnot_any {w : World} {r n : Nat} {lv : Value} {hs : List (Int × ByteArray)} (hn8 : n ≤ 8) (hc : w.cell? ⟨r, 0, none⟩ = some (.int .i64 (n : Int))) (hh : Held w r lv hs) (hl : hs.length ≤ 60) {f : Int} {F : (Int → Bool) → Bool} {p : Int × ByteArray} (hf : hs.find? (fun p => p.1 == f) = some p) (hp : p.2 = txt n F) {R : Int → Int → World → Prop} (hhold : HoldsR w r (txt n (fun a => !F a)) R) :
    Calls Tryz.prog 34 #[.pointer (some ⟨r, 0, none⟩), .int .i64 f] w fun e w' => ∃ x y, e = .returned (.tuple #[.int .i64 x, .int .i64 y]) ∧ R x y w' := by
  obtain ⟨i5, hi5, hz0, hz1, hz2⟩ := info_parts infoByte
  have h256 : 2 ^ n ≤ 256 := by
    have : 2 ^ n ≤ 2 ^ 8 := Nat.pow_le_pow_right (by omega) hn8
    omega
  have HMB : Hid (∀ w : World, (Instr.makeSlice 111 (.int .i64 ((2 ^ n : Nat) : Int)) (.int .i64 ((2 ^ n : Nat) : Int))).run Tryz.prog w = .ok (.slice (some ⟨w.heap.size, 0, none⟩) (2 ^ n) (2 ^ n)) (w.alloc (.cells (fillV (.int .u8 0) (2 ^ n)) 5))) := make_bytes hi5 hz0 hz1 hz2 h256
  have HH : Hid (HoldsR w r (txt n (fun a => !F a)) R) := hhold
  have hof := rof_some (n := n) (F := F) hh hl hf hp
  obtain ⟨S, hS⟩ : ∃ S, S = txt n F := ⟨_, rfl⟩
  obtain ⟨P, hP⟩ : ∃ P : Nat, P = 2 ^ n := ⟨_, rfl⟩
  have HI : Hid (∀ (i : Nat) (w : World), i < P → (Instr.index 9 (.string S) (.int .i64 (i : Int))).run Tryz.prog w = .ok (.int .u8 (bI (F (asgN n i)))) w) := fun i w hi => by rw [hS]; exact txt_index F (by omega) w
  have hsz := rsize_any (w := w) hn8 hc
  rw [← hS] at hof
  rw [← hP] at HMB h256 hsz
  have HPP : Hid (P = 2 ^ n) := hP
  have hP0 : (0 : Int) ≤ (P : Int) := by omega
  have hP1 : (P : Int) ≤ 256 := by omega
  clear hhold hi5 hz0 hz1 hz2 hP hS hf hp hh
  go_enter Tryz.func34, Tryz.ntmps34
  go_wp2_with fail
  refine hof.mono ?_
  rintro e w0 ⟨rfl, rfl⟩
  go_wp2_with fail
  refine hsz.mono ?_
  rintro e w1 ⟨rfl, rfl⟩
  go_wp2_with (first
    | (at_make; refine wpList_make_at rfl _ _ 111 rfl (.int .i64 (P : Int)) (.int .i64 (P : Int)) _ rfl rfl (HMB.out _) ?_)
    | fail)
  obtain ⟨Y, hY⟩ : ∃ Y, Y = w.alloc (Obj.cells (fillV (Value.int .u8 0) P) 5) := ⟨_, rfl⟩
  rw [← hY]
  have hkY : Keeps [] w Y := by rw [hY]; exact (Keeps.refl _ _).alloc _
  have b2 : Bytes8 Y w.heap.size P (fun i => if i < 0 then !F (asgN n i) else false) := fun k hk => by
    rw [hY]
    exact ⟨cell_new w _ _ rfl (fillV_get _ hk), World.frozen?_alloc_at _ _ _ _ rfl⟩
  have HB2 : Hid (Bytes8 Y w.heap.size P (fun i => if i < 0 then !F (asgN n i) else false)) := b2
  clear hY b2
  go_loopw [9] (fun i wr => ∃ j : Nat, j ≤ P ∧ i = .int .i64 j ∧ Hid (Bytes8 wr w.heap.size P (fun i => if i < j then !F (asgN n i) else false)) ∧ Keeps [w.heap.size] Y wr) (fun i _ => P - (intOf i).toNat)
  case atStart => exact ⟨0, by omega, rfl, HB2.out, Keeps.refl _ _⟩
  case round =>
    clear HB2
    obtain ⟨j, hj, rfl, hB, hkr⟩ := hrel
    by_cases hlt : j < P
    · have hj0 : (0 : Int) ≤ (j : Int) := by omega
      have hj1 : (j : Int) < (P : Int) := by omega
      have p1 := (hB.out j hlt).1
      have p2 := (hB.out j hlt).2
      have i2 := fun w => HI.out j w hlt
      have hB' := hB.out.set (k := j) (f' := fun i => if i < j + 1 then !F (asgN n i) else false) (!F (asgN n j)) (by simp) (fun i _ hi => by
        by_cases hij : i < j
        · rw [if_pos hij, if_pos (by omega)]
        · rw [if_neg hij, if_neg (by omega)])
      have HB' : Hid (Bytes8 (wr.setCell ⟨w.heap.size, j, none⟩ (.int .u8 (if !F (asgN n j) then 1 else 0))) w.heap.size P (fun i => if i < j + 1 then !F (asgN n i) else false)) := hB'
      clear hB' hB
      cases hv : F (asgN n j) with
      | true =>
        rw [hv] at i2 HB'
        simp only [bI] at i2
        clear hv
        go_wp2_with fail
        go_roundw
        case rel => exact ⟨j + 1, by omega, by go_num, HB'.out, hkr.setCell _ (Or.inl (by simp)) _⟩
        case measure => simp [intOf]; omega
      | false =>
        rw [hv] at i2 HB'
        simp only [bI] at i2
        clear hv
        go_wp2_with fail
        go_roundw
        case rel => exact ⟨j + 1, by omega, by go_num, HB'.out, hkr.setCell _ (Or.inl (by simp)) _⟩
        case measure => simp [intOf]; omega
    · have ej : j = P := by omega
      subst ej
      have hjj : ¬ (j : Int) < (j : Int) := by omega
      have hconv := (HPP.out ▸ hB.out : Bytes8 wr w.heap.size (2 ^ n) (fun i => if i < 2 ^ n then !F (asgN n i) else false)).text (F := fun a => !F a) (fun i hi => by simp only [hi, if_true]) (2 ^ n)
      rw [← HPP.out] at hconv
      have hkw : Keeps [] w wr := ((hkY.mono (by simp)).trans hkr).strike (by simp)
      have hcall := HH.out wr hkw
      clear hB
      go_wp2_with fail
      refine hcall.mono ?_
      rintro e w3 ⟨x, y, rfl, hR⟩
      go_wp2_with fail
      go_ret2
      exact ⟨x, y, rfl, hR⟩

end Go.Proofs.YtmgjegokkbghlaaGreat

namespace Go.Proofs.YtmgjegokkbghlaaGreat
open Go.RowKit Go.Maps Bdd
attribute [local go_sem ↓] Go.wp_at_zero Go.wp_at_succ

/-- a function that is held, by its text -/
def HasT (n : Nat) (hs : List (Int × ByteArray)) (f : Int) (F : (Int → Bool) → Bool) : Prop := ∃ p, hs.find? (fun p => p.1 == f) = some p ∧ p.2 = txt n F
theorem idx_all {n P : Nat} (hP : P = 2 ^ n) (F : (Int → Bool) → Bool) : ∀ (i : Nat) (w : World), i < P → (Instr.index 9 (.string (txt n F)) (.int .i64 (i : Int))).run Tryz.prog w = .ok (.int .u8 (bI (F (asgN n i)))) w := fun i w hi => txt_index F (by omega) w

set_option maxRecDepth 100000 in
set_option maxHeartbeats 4000000 in
theorem rchoose_any {w : World} {r n : Nat} {lv : Value} {hs : List (Int × ByteArray)} (hn8 : n ≤ 8) (hc : w.cell? ⟨r, 0, none⟩ = some (.int .i64 (n : Int))) (hh : Held w r lv hs) (hl : hs.length ≤ 60) {f g h : Int} {F G K : (Int → Bool) → Bool} (hf : HasT n hs f F) (hg : HasT n hs g G) (hk : HasT n hs h K) {R : Int → Int → World → Prop} (hhold : HoldsR w r (txt n (fun a => if F a then G a else K a)) R) :
    Calls Tryz.prog 36 #[.pointer (some ⟨r, 0, none⟩), .int .i64 f, .int .i64 g, .int .i64 h] w fun e w' => ∃ x y, e = .returned (.tuple #[.int .i64 x, .int .i64 y]) ∧ R x y w' := by
  obtain ⟨i5, hi5, hz0, hz1, hz2⟩ := info_parts infoByte
  have h256 : 2 ^ n ≤ 256 := by
    have : 2 ^ n ≤ 2 ^ 8 := Nat.pow_le_pow_right (by omega) hn8
    omega
  have HMB : Hid (∀ w : World, (Instr.makeSlice 111 (.int .i64 ((2 ^ n : Nat) : Int)) (.int .i64 ((2 ^ n : Nat) : Int))).run Tryz.prog w = .ok (.slice (some ⟨w.heap.size, 0, none⟩) (2 ^ n) (2 ^ n)) (w.alloc (.cells (fillV (.int .u8 0) (2 ^ n)) 5))) := make_bytes hi5 hz0 hz1 hz2 h256
  have HH : Hid (HoldsR w r (txt n (fun a => if F a then G a else K a)) R) := hhold
  obtain ⟨pf, f1, f2⟩ := hf
  obtain ⟨pg, g1, g2⟩ := hg
  obtain ⟨ph, k1, k2⟩ := hk
  have hof := rof_some (n := n) (F := F) hh hl f1 f2
  have hog := rof_some (n := n) (F := G) hh hl g1 g2
  have hok := rof_some (n := n) (F := K) hh hl k1 k2
  obtain ⟨P, hP⟩ : ∃ P : Nat, P = 2 ^ n := ⟨_, rfl⟩
  have HI1 := idx_all hP F
  have HI2 := idx_all hP G
  have HI3 := idx_all hP K
  generalize txt n F = S1 at hof HI1
  generalize txt n G = S2 at hog HI2
  generalize txt n K = S3 at hok HI3
  have HJ1 : Hid (∀ (i : Nat) (w : World), i < P → (Instr.index 9 (.string S1) (.int .i64 (i : Int))).run Tryz.prog w = .ok (.int .u8 (bI (F (asgN n i)))) w) := HI1
  have HJ2 : Hid (∀ (i : Nat) (w : World), i < P → (Instr.index 9 (.string S2) (.int .i64 (i : Int))).run Tryz.prog w = .ok (.int .u8 (bI (G (asgN n i)))) w) := HI2
  have HJ3 : Hid (∀ (i : Nat) (w : World), i < P → (Instr.index 9 (.string S3) (.int .i64 (i : Int))).run Tryz.prog w = .ok (.int .u8 (bI (K (asgN n i)))) w) := HI3
  have hsz := rsize_any (w := w) hn8 hc
  rw [← hP] at HMB h256 hsz
  have HPP : Hid (P = 2 ^ n) := hP
  have hP0 : (0 : Int) ≤ (P : Int) := by omega
  have hP1 : (P : Int) ≤ 256 := by omega
  clear hhold hi5 hz0 hz1 hz2 hP f1 f2 g1 g2 k1 k2 hh HI1 HI2 HI3
  go_enter Tryz.func36, Tryz.ntmps36
  go_wp2_with fail
  refine hof.mono ?_
  rintro e w0 ⟨rfl, rfl⟩
  go_wp2_with fail
  refine hog.mono ?_
  rintro e w0 ⟨rfl, rfl⟩
  go_wp2_with fail
  refine hok.mono ?_
  rintro e w0 ⟨rfl, rfl⟩
  go_wp2_with fail
  refine hsz.mono ?_
  rintro e w1 ⟨rfl, rfl⟩
  go_wp2_with (first
    | (at_make; refine wpList_make_at rfl _ _ 111 rfl (.int .i64 (P : Int)) (.int .i64 (P : Int)) _ rfl rfl (HMB.out _) ?_)
    | fail)
  obtain ⟨Y, hY⟩ : ∃ Y, Y = w.alloc (Obj.cells (fillV (Value.int .u8 0) P) 5) := ⟨_, rfl⟩
  rw [← hY]
  have hkY : Keeps [] w Y := by rw [hY]; exact (Keeps.refl _ _).alloc _
  obtain ⟨E, hE⟩ : ∃ E : Nat → Bool, E = fun i => if F (asgN n i) then G (asgN n i) else K (asgN n i) := ⟨_, rfl⟩
  have HB2 : Hid (Bytes8 Y w.heap.size P (fun i => if i < 0 then E i else false)) := fun k hk => by
    rw [hY]
    exact ⟨cell_new w _ _ rfl (fillV_get _ hk), World.frozen?_alloc_at _ _ _ _ rfl⟩
  have HE : Hid (E = fun i => if F (asgN n i) then G (asgN n i) else K (asgN n i)) := hE
  clear hY hE
  go_loopw [17] (fun i wr => ∃ j : Nat, j ≤ P ∧ i = .int .i64 j ∧ Hid (Bytes8 wr w.heap.size P (fun i => if i < j then E i else false)) ∧ Keeps [w.heap.size] Y wr) (fun i _ => P - (intOf i).toNat)
  case atStart => exact ⟨0, by omega, rfl, HB2.out, Keeps.refl _ _⟩
  case round =>
    clear HB2
    obtain ⟨j, hj, rfl, hB, hkr⟩ := hrel
    by_cases hlt : j < P
    · have hj0 : (0 : Int) ≤ (j : Int) := by omega
      have hj1 : (j : Int) < (P : Int) := by omega
      have p1 := (hB.out j hlt).1
      have p2 := (hB.out j hlt).2
      have p3 : ∀ u, (wr.setCell ⟨w.heap.size, j, none⟩ u).cell? ⟨w.heap.size, j, none⟩ = some u := fun u => World.cell?_setCell_same _ _ _ p1
      have i1 := fun w => HJ1.out j w hlt
      have i2 := fun w => HJ2.out j w hlt
      have i3 := fun w => HJ3.out j w hlt
      have hEj : E j = if F (asgN n j) then G (asgN n j) else K (asgN n j) := by rw [HE.out]
      have next : ∀ (w1 : World) (f1 : Nat → Bool) (x : Bool), Bytes8 w1 w.heap.size P f1 → (∀ i, i < P → i ≠ j → f1 i = if i < j then E i else false) → E j = x → Bytes8 (w1.setCell ⟨w.heap.size, j, none⟩ (.int .u8 (if x then 1 else 0))) w.heap.size P (fun i => if i < j + 1 then E i else false) := by
        intro w1 f1 x h1 h2 h3
        refine h1.set x (by simp [h3]) (fun i hi hne => ?_)
        rw [h2 i hi hne]
        by_cases hij : i < j
        · rw [if_pos hij, if_pos (by omega)]
        · rw [if_neg hij, if_neg (by omega)]
      have mid : ∀ x : Bool, Bytes8 (wr.setCell ⟨w.heap.size, j, none⟩ (.int .u8 (if x then 1 else 0))) w.heap.size P (fun i => if i = j then x else if i < j then E i else false) := fun x => hB.out.set x (by simp) (fun i _ hne => by simp [hne])
      have n1 : ∀ x : Bool, E j = x → Bytes8 (wr.setCell ⟨w.heap.size, j, none⟩ (.int .u8 (if x then 1 else 0))) w.heap.size P (fun i => if i < j + 1 then E i else false) := fun x hx => next wr _ x hB.out (fun i _ _ => rfl) hx
      have n2 : ∀ x y : Bool, E j = y → Bytes8 ((wr.setCell ⟨w.heap.size, j, none⟩ (.int .u8 (if x then 1 else 0))).setCell ⟨w.heap.size, j, none⟩ (.int .u8 (if y then 1 else 0))) w.heap.size P (fun i => if i < j + 1 then E i else false) := fun x y hy => next _ _ y (mid x) (fun i _ hne => by simp [hne]) hy
      have N1 : Hid (∀ x : Bool, E j = x → Bytes8 (wr.setCell ⟨w.heap.size, j, none⟩ (.int .u8 (if x then 1 else 0))) w.heap.size P (fun i => if i < j + 1 then E i else false)) := n1
      have N2 : Hid (∀ x y : Bool, E j = y → Bytes8 ((wr.setCell ⟨w.heap.size, j, none⟩ (.int .u8 (if x then 1 else 0))).setCell ⟨w.heap.size, j, none⟩ (.int .u8 (if y then 1 else 0))) w.heap.size P (fun i => if i < j + 1 then E i else false)) := n2
      have HEj : Hid (E j = if F (asgN n j) then G (asgN n j) else K (asgN n j)) := hEj
      clear hB next mid n1 n2 hEj
      generalize F (asgN n j) = bf at *
      generalize G (asgN n j) = bg at *
      generalize K (asgN n j) = bk at *
      cases bf <;> cases bg <;> cases bk <;> simp only [bI] at i1 i2 i3
      all_goals
        go_wp2_with fail
        go_roundw
        case rel =>
          refine ⟨j + 1, by omega, by go_num, ?_, by first | exact hkr.setCell _ (Or.inl (by simp)) _ | exact (hkr.setCell _ (Or.inl (by simp)) _).setCell _ (Or.inl (by simp)) _⟩
          first
            | exact N1.out false HEj.out
            | exact N1.out true HEj.out
            | exact N2.out false false HEj.out
            | exact N2.out false true HEj.out
            | exact N2.out true false HEj.out
            | exact N2.out true true HEj.out
        case measure => simp [intOf]; omega
    · have ej : j = P := by omega
      subst ej
      have hjj : ¬ (j : Int) < (j : Int) := by omega
      have hconv := (HPP.out ▸ hB.out : Bytes8 wr w.heap.size (2 ^ n) (fun i => if i < 2 ^ n then E i else false)).text (F := fun a => if F a then G a else K a) (fun i hi => by simp only [hi, if_true, HE.out]) (2 ^ n)
      rw [← HPP.out] at hconv
      have hkw : Keeps [] w wr := ((hkY.mono (by simp)).trans hkr).strike (by simp)
      have hcall := HH.out wr hkw
      clear hB
      go_wp2_with fail
      refine hcall.mono ?_
      rintro e w3 ⟨x, y, rfl, hR⟩
      go_wp2_with fail
      go_ret2
      exact ⟨x, y, rfl, hR⟩

end Go.Proofs.YtmgjegokkbghlaaGreat

namespace Go.Proofs.YtmgjegokkbghlaaGreat
open Go.RowKit Go.Maps Bdd
attribute [local go_sem ↓] Go.wp_at_zero Go.wp_at_succ

set_option maxRecDepth 100000 in
set_option maxHeartbeats 4000000 in
theorem rapply_any {w : World} {r n : Nat} {lv : Value} {hs : List (Int × ByteArray)} (hn8 : n ≤ 8) (hc : w.cell? ⟨r, 0, none⟩ = some (.int .i64 (n : Int))) (hh : Held w r lv hs) (hl : hs.length ≤ 60) {what f g : Int} (hw0 : 0 ≤ what) (hw1 : what ≤ 3) {F G : (Int → Bool) → Bool} (hf : HasT n hs f F) (hg : HasT n hs g G) {R : Int → Int → World → Prop} (hhold : HoldsR w r (txt n (fun a => app what (F a) (G a))) R) :
    Calls Tryz.prog 35 #[.pointer (some ⟨r, 0, none⟩), .int .i64 what, .int .i64 f, .int .i64 g] w fun e w' => ∃ x y, e = .returned (.tuple #[.int .i64 x, .int .i64 y]) ∧ R x y w' := by
  obtain ⟨i5, hi5, hz0, hz1, hz2⟩ := info_parts infoByte
  have h256 : 2 ^ n ≤ 256 := by
    have : 2 ^ n ≤ 2 ^ 8 := Nat.pow_le_pow_right (by omega) hn8
    omega
  have HMB : Hid (∀ w : World, (Instr.makeSlice 111 (.int .i64 ((2 ^ n : Nat) : Int)) (.int .i64 ((2 ^ n : Nat) : Int))).run Tryz.prog w = .ok (.slice (some ⟨w.heap.size, 0, none⟩) (2 ^ n) (2 ^ n)) (w.alloc (.cells (fillV (.int .u8 0) (2 ^ n)) 5))) := make_bytes hi5 hz0 hz1 hz2 h256
  have HH : Hid (HoldsR w r (txt n (fun a => app what (F a) (G a))) R) := hhold
  obtain ⟨pf, f1, f2⟩ := hf
  obtain ⟨pg, g1, g2⟩ := hg
  have hof := rof_some (n := n) (F := F) hh hl f1 f2
  have hog := rof_some (n := n) (F := G) hh hl g1 g2
  obtain ⟨P, hP⟩ : ∃ P : Nat, P = 2 ^ n := ⟨_, rfl⟩
  have HI1 := idx_all hP F
  have HI2 := idx_all hP G
  generalize txt n F = S1 at hof HI1
  generalize txt n G = S2 at hog HI2
  have HJ1 : Hid (∀ (i : Nat) (w : World), i < P → (Instr.index 9 (.string S1) (.int .i64 (i : Int))).run Tryz.prog w = .ok (.int .u8 (bI (F (asgN n i)))) w) := HI1
  have HJ2 : Hid (∀ (i : Nat) (w : World), i < P → (Instr.index 9 (.string S2) (.int .i64 (i : Int))).run Tryz.prog w = .ok (.int .u8 (bI (G (asgN n i)))) w) := HI2
  have hsz := rsize_any (w := w) hn8 hc
  rw [← hP] at HMB h256 hsz
  have HPP : Hid (P = 2 ^ n) := hP
  have hP0 : (0 : Int) ≤ (P : Int) := by omega
  have hP1 : (P : Int) ≤ 256 := by omega
  clear hhold hi5 hz0 hz1 hz2 hP f1 f2 g1 g2 hh HI1 HI2
  have hwh : what = 0 ∨ what = 1 ∨ what = 2 ∨ what = 3 := by omega
  obtain ⟨E, hE⟩ : ∃ E : Nat → Bool, E = fun i => app what (F (asgN n i)) (G (asgN n i)) := ⟨_, rfl⟩
  have HEJ : Hid (∀ j, E j = app what (F (asgN n j)) (G (asgN n j))) := by show ∀ j, _; rw [hE]; exact fun _ => rfl
  have HTX : Hid (∀ (wr : World) (B : Nat), Bytes8 wr B (2 ^ n) (fun i => if i < 2 ^ n then E i else false) → (convert 111 9 (.slice (some ⟨B, 0, none⟩) (2 ^ n) (2 ^ n))).run Tryz.prog wr = .ok (.string (txt n (fun a => app what (F a) (G a)))) wr) := fun wr B hB => hB.text (F := fun a => app what (F a) (G a)) (fun i hi => by simp only [hi, if_true, hE]) (2 ^ n)
  clear hE
  rcases hwh with rfl | rfl | rfl | rfl
  all_goals
    go_enter Tryz.func35, Tryz.ntmps35
    go_wp2_with fail
    refine hof.mono ?_
    rintro e w0 ⟨rfl, rfl⟩
    go_wp2_with fail
    refine hog.mono ?_
    rintro e w0 ⟨rfl, rfl⟩
    go_wp2_with fail
    refine hsz.mono ?_
    rintro e w1 ⟨rfl, rfl⟩
    go_wp2_with (first
      | (at_make; refine wpList_make_at rfl _ _ 111 rfl (.int .i64 (P : Int)) (.int .i64 (P : Int)) _ rfl rfl (HMB.out _) ?_)
      | fail)
    obtain ⟨Y, hY⟩ : ∃ Y, Y = w.alloc (Obj.cells (fillV (Value.int .u8 0) P) 5) := ⟨_, rfl⟩
    rw [← hY]
    have hkY : Keeps [] w Y := by rw [hY]; exact (Keeps.refl _ _).alloc _
    have HB2 : Hid (Bytes8 Y w.heap.size P (fun i => if i < 0 then E i else false)) := fun k hk => by
      rw [hY]
      exact ⟨cell_new w _ _ rfl (fillV_get _ hk), World.frozen?_alloc_at _ _ _ _ rfl⟩
    clear hY
    go_loopw [15, 16, 17] (fun i _ _ wr => ∃ j : Nat, j ≤ P ∧ i = .int .i64 j ∧ Hid (Bytes8 wr w.heap.size P (fun i => if i < j then E i else false)) ∧ Keeps [w.heap.size] Y wr) (fun i _ _ _ => P - (intOf i).toNat)
    case atStart => exact ⟨0, by omega, rfl, HB2.out, Keeps.refl _ _⟩
    case round =>
      clear HB2
      obtain ⟨j, hj, rfl, hB, hkr⟩ := hrel
      by_cases hlt : j < P
      · have hj0 : (0 : Int) ≤ (j : Int) := by omega
        have hj1 : (j : Int) < (P : Int) := by omega
        have p1 := (hB.out j hlt).1
        have p2 := (hB.out j hlt).2
        have i1 := fun w => HJ1.out j w hlt
        have i2 := fun w => HJ2.out j w hlt
        have HEj := HEJ.out j
        have HEj' : Hid (E j = _) := HEj
        clear HEj
        have n1 : ∀ x : Bool, E j = x → Bytes8 (wr.setCell ⟨w.heap.size, j, none⟩ (.int .u8 (if x then 1 else 0))) w.heap.size P (fun i => if i < j + 1 then E i else false) := by
          intro x hx
          refine hB.out.set x (by simp [hx]) (fun i hi hne => ?_)
          by_cases hij : i < j
          · rw [if_pos hij, if_pos (by omega)]
          · rw [if_neg hij, if_neg (by omega)]
        have N1 : Hid (∀ x : Bool, E j = x → Bytes8 (wr.setCell ⟨w.heap.size, j, none⟩ (.int .u8 (if x then 1 else 0))) w.heap.size P (fun i => if i < j + 1 then E i else false)) := n1
        clear hB n1
        generalize F (asgN n j) = bf at *
        generalize G (asgN n j) = bg at *
        cases bf <;> cases bg <;> simp only [bI] at i1 i2
        all_goals
          go_wp2_with (first
            | (go_at_call 85; refine (rtruth_any _).mono ?_; rintro e w2 ⟨rfl, rfl⟩)
            | fail)
          go_roundw
          case rel =>
            refine ⟨j + 1, by omega, by go_num, ?_, hkr.setCell _ (Or.inl (by simp)) _⟩
            first
              | exact N1.out false HEj'.out
              | exact N1.out true HEj'.out
          case measure => simp [intOf]; omega
      · have ej : j = P := by omega
        subst ej
        have hjj : ¬ (j : Int) < (j : Int) := by omega
        have hconv := HTX.out wr w.heap.size (HPP.out ▸ hB.out)
        rw [← HPP.out] at hconv
        have hkw : Keeps [] w wr := ((hkY.mono (by simp)).trans hkr).strike (by simp)
        have hcall := HH.out wr hkw
        clear hB
        go_wp2_with fail
        refine hcall.mono ?_
        rintro e w3 ⟨x, y, rfl, hR⟩
        go_wp2_with fail
        go_ret2
        exact ⟨x, y, rfl, hR⟩

end Go.Proofs.YtmgjegokkbghlaaGreat

namespace Go.Proofs.YtmgjegokkbghlaaGreat
open Go.RowKit Go.Maps Bdd
attribute [local go_sem ↓] Go.wp_at_zero Go.wp_at_succ

set_option maxRecDepth 100000 in
theorem risvar_yes {w : World} {r n : Nat} (hc : w.cell? ⟨r, 0, none⟩ = some (.int .i64 (n : Int))) {v : Nat} (hv : v < n) : Calls Tryz.prog 87 #[.pointer (some ⟨r, 0, none⟩), .int .i64 (v : Int)] w fun e w' => e = .returned (.bool true) ∧ w = w' := by
  have h0 : (0 : Int) ≤ (v : Int) := by omega
  have h1 : (v : Int) < (n : Int) := by omega
  go_enter Tryz.func87, Tryz.ntmps87
  go_wp2_with fail
  go_ret
  exact ⟨by first | (simp; done) | (simp; omega) | rfl, rfl⟩
set_option maxRecDepth 100000 in
theorem risvar_no {w : World} {r n : Nat} (hc : w.cell? ⟨r, 0, none⟩ = some (.int .i64 (n : Int))) {v : Int} (hv : v < 0 ∨ (n : Int) ≤ v) : Calls Tryz.prog 87 #[.pointer (some ⟨r, 0, none⟩), .int .i64 v] w fun e w' => e = .returned (.bool false) ∧ w = w' := by
  by_cases h0 : v < 0
  · go_enter Tryz.func87, Tryz.ntmps87
    go_wp2_with fail
    go_ret
    exact ⟨by first | (simp; done) | (simp; omega) | rfl, rfl⟩
  · have h1 : (n : Int) ≤ v := by omega
    have h0' : 0 ≤ v := by omega
    go_enter Tryz.func87, Tryz.ntmps87
    go_wp2_with fail
    go_ret
    exact ⟨by first | (simp; done) | (simp; omega) | rfl, rfl⟩

set_option maxRecDepth 100000 in
set_option maxHeartbeats 1000000 in
theorem rvariable_any {w : World} {r n : Nat} (hn8 : n ≤ 8) (hc : w.cell? ⟨r, 0, none⟩ = some (.int .i64 (n : Int))) {v : Nat} (hv : v < n) {R : Int → Int → World → Prop} (hh : HoldsR w r (txt n (fun a => a (v : Int))) R) :
    Calls Tryz.prog 33 #[.pointer (some ⟨r, 0, none⟩), .int .i64 (v : Int)] w fun e w' => ∃ x y, e = .returned (.tuple #[.int .i64 x, .int .i64 y]) ∧ R x y w' := by
  obtain ⟨i5, hi5, hz0, hz1, hz2⟩ := info_parts infoByte
  have h256 : 2 ^ n ≤ 256 := by
    have : 2 ^ n ≤ 2 ^ 8 := Nat.pow_le_pow_right (by omega) hn8
    omega
  have HMB : Hid (∀ w : World, (Instr.makeSlice 111 (.int .i64 ((2 ^ n : Nat) : Int)) (.int .i64 ((2 ^ n : Nat) : Int))).run Tryz.prog w = .ok (.slice (some ⟨w.heap.size, 0, none⟩) (2 ^ n) (2 ^ n)) (w.alloc (.cells (fillV (.int .u8 0) (2 ^ n)) 5))) := make_bytes hi5 hz0 hz1 hz2 h256
  have HH : Hid (HoldsR w r (txt n (fun a => a (v : Int))) R) := hh
  clear hh hi5 hz0 hz1 hz2
  go_enter Tryz.func33, Tryz.ntmps33
  obtain ⟨P, hP⟩ : ∃ P : Nat, P = 2 ^ n := ⟨_, rfl⟩
  have hsz := rsize_any (w := w) hn8 hc
  rw [← hP] at HMB h256 hsz
  have HPP : Hid (P = 2 ^ n) := hP
  have hP0 : (0 : Int) ≤ (P : Int) := by omega
  have hP1 : (P : Int) ≤ 256 := by omega
  clear hP
  go_wp2_with fail
  refine (risvar_yes hc hv).mono ?_
  rintro e w0 ⟨rfl, rfl⟩
  go_wp2_with fail
  refine hsz.mono ?_
  rintro e w1 ⟨rfl, rfl⟩
  go_wp2_with (first
    | (at_make; refine wpList_make_at rfl _ _ 111 rfl (.int .i64 (P : Int)) (.int .i64 (P : Int)) _ rfl rfl (HMB.out _) ?_)
    | fail)
  obtain ⟨Y, hY⟩ : ∃ Y, Y = w.alloc (Obj.cells (fillV (Value.int .u8 0) P) 5) := ⟨_, rfl⟩
  rw [← hY]
  have hkY : Keeps [] w Y := by rw [hY]; exact (Keeps.refl _ _).alloc _
  have b2 : Bytes8 Y w.heap.size P (fun i => if i < 0 then i.testBit (n - 1 - v) else false) := fun k hk => by
    rw [hY]
    exact ⟨cell_new w _ _ rfl (fillV_get _ hk), World.frozen?_alloc_at _ _ _ _ rfl⟩
  have HB2 : Hid (Bytes8 Y w.heap.size P (fun i => if i < 0 then i.testBit (n - 1 - v) else false)) := b2
  clear hY b2
  go_loopw [8] (fun i wr => ∃ j : Nat, j ≤ P ∧ i = .int .i64 j ∧ Hid (Bytes8 wr w.heap.size P (fun i => if i < j then i.testBit (n - 1 - v) else false)) ∧ Keeps [w.heap.size] Y wr) (fun i _ => P - (intOf i).toNat)
  case atStart => exact ⟨0, by omega, rfl, HB2.out, Keeps.refl _ _⟩
  case round =>
    clear HB2
    obtain ⟨j, hj, rfl, hB, hkr⟩ := hrel
    by_cases hlt : j < P
    · have hj0 : (0 : Int) ≤ (j : Int) := by omega
      have hj1 : (j : Int) < (P : Int) := by omega
      have p1 := (hB.out j hlt).1
      have p2 := (hB.out j hlt).2
      have hB' := hB.out.set (k := j) (f' := fun i => if i < j + 1 then i.testBit (n - 1 - v) else false) (j.testBit (n - 1 - v)) (by simp) (fun i _ hi => by
        by_cases hij : i < j
        · rw [if_pos hij, if_pos (by omega)]
        · rw [if_neg hij, if_neg (by omega)])
      have HB' : Hid (Bytes8 (wr.setCell ⟨w.heap.size, j, none⟩ (.int .u8 (if j.testBit (n - 1 - v) then 1 else 0))) w.heap.size P (fun i => if i < j + 1 then i.testBit (n - 1 - v) else false)) := hB'
      have hcr := hkr.cell (hkY.cell hc (by simp)) (by have hrl : r < w.heap.size := cell_lt (p := ⟨r, 0, none⟩) hc; simp; omega)
      have hbit := rbit_any (w := wr) hn8 hcr (i := j) (v := v) (by rw [← HPP.out]; exact hlt) hv
      clear hB' hB
      cases hb : j.testBit (n - 1 - v) with
      | true =>
        rw [hb] at hbit HB'
        simp only [bI] at hbit
        clear hb
        go_wp2_with (first
          | (go_at_call 88; refine hbit.mono ?_; rintro e w2 ⟨rfl, rfl⟩)
          | fail)
        go_roundw
        case rel => exact ⟨j + 1, by omega, by go_num, HB'.out, hkr.setCell _ (Or.inl (by simp)) _⟩
        case measure => simp [intOf]; omega
      | false =>
        rw [hb] at hbit HB'
        simp only [bI] at hbit
        clear hb
        go_wp2_with (first
          | (go_at_call 88; refine hbit.mono ?_; rintro e w2 ⟨rfl, rfl⟩)
          | fail)
        go_roundw
        case rel => exact ⟨j + 1, by omega, by go_num, HB'.out, hkr.setCell _ (Or.inl (by simp)) _⟩
        case measure => simp [intOf]; omega
    · have ej : j = P := by omega
      subst ej
      have hjj : ¬ (j : Int) < (j : Int) := by omega
      have hconv := (HPP.out ▸ hB.out : Bytes8 wr w.heap.size (2 ^ n) (fun i => if i < 2 ^ n then i.testBit (n - 1 - v) else false)).text (F := fun a => a (v : Int)) (fun i hi => by simp [hi, asgN]) (2 ^ n)
      rw [← HPP.out] at hconv
      have hkw : Keeps [] w wr := ((hkY.mono (by simp)).trans hkr).strike (by simp)
      have hcall := HH.out wr hkw
      clear hB
      go_wp2_with fail
      refine hcall.mono ?_
      rintro e w3 ⟨x, y, rfl, hR⟩
      go_wp2_with fail
      go_ret2
      exact ⟨x, y, rfl, hR⟩

end Go.Proofs.YtmgjegokkbghlaaGreat

namespace Go.Proofs.YtmgjegokkbghlaaGreat
open Go.RowKit Go.Maps Bdd
attribute [local go_sem ↓] Go.wp_at_zero Go.wp_at_succ

set_option maxRecDepth 100000 in
set_option maxHeartbeats 1000000 in
theorem rvalue_any {w : World} {r n vb vo cap : Nat} {lv : Value} {hs : List (Int × ByteArray)} (hn8 : n ≤ 8) (hc : w.cell? ⟨r, 0, none⟩ = some (.int .i64 (n : Int))) (hh : Held w r lv hs) (hl : hs.length ≤ 60) {f : Int} {F : (Int → Bool) → Bool} (hf : HasT n hs f F) {a : Int → Bool} (ha : Truths w vb vo n a) :
    Calls Tryz.prog 54 #[.pointer (some ⟨r, 0, none⟩), .int .i64 f, .slice (some ⟨vb, vo, none⟩) n cap] w fun e w' => e = .returned (.tuple #[.bool (F (asgN n (numOf a n))), .int .i64 0]) ∧ w = w' := by
  obtain ⟨p, hf1, hf2⟩ := hf
  have hof := rof_some (n := n) (F := F) hh hl hf1 hf2
  obtain ⟨P, hP⟩ : ∃ P : Nat, P = 2 ^ n := ⟨_, rfl⟩
  have HI1 := idx_all hP F
  generalize txt n F = S1 at hof HI1
  have HJ1 : Hid (∀ (i : Nat) (w : World), i < P → (Instr.index 9 (.string S1) (.int .i64 (i : Int))).run Tryz.prog w = .ok (.int .u8 (bI (F (asgN n i)))) w) := HI1
  have HA : Hid (Truths w vb vo n a) := ha
  have hb : ∀ k, k ≤ n → numOf a k < 256 := fun k hk => by
    have h1 := numOf_lt a k
    have h2 : 2 ^ k ≤ 2 ^ 8 := Nat.pow_le_pow_right (by omega) (by omega)
    omega
  have HB : Hid (∀ k, k ≤ n → numOf a k < 256) := hb
  have HL : Hid (numOf a n < P) := by show _ < _; rw [hP]; exact numOf_lt a n
  have hn0 : (0 : Int) ≤ (n : Int) := by omega
  have hn9 : (n : Int) ≤ 8 := by omega
  clear HI1 hf1 hf2 hh ha hb hP
  go_enter Tryz.func54, Tryz.ntmps54
  go_wp2_with fail
  refine hof.mono ?_
  rintro e w0 ⟨rfl, rfl⟩
  go_wp2_with fail
  go_loopw [10, 11] (fun v x wr => ∃ j : Nat, j ≤ n ∧ x = .int .i64 j ∧ v = .int .i64 (numOf a j : Int) ∧ w = wr) (fun _ x _ => n - (intOf x).toNat)
  case atStart => exact ⟨0, by omega, rfl, rfl, rfl⟩
  case round =>
    obtain ⟨j, hj, rfl, rfl, rfl⟩ := hrel
    by_cases hlt : j < n
    · have hj0 : (0 : Int) ≤ (j : Int) := by omega
      have hj1 : (j : Int) < (n : Int) := by omega
      have hcell := HA.out j hlt
      have hvl : vb < w.heap.size := cell_lt (p := ⟨vb, vo + j, none⟩) hcell
      have ht := HB.out j hj
      have HN : Hid (numOf a (j + 1) = 2 * numOf a j + (a (j : Int)).toNat) := rfl
      generalize numOf a j = t at *
      have ht0 : (0 : Int) ≤ (t : Int) := by omega
      have ht1 : (t : Int) < 256 := by omega
      cases hb : a (j : Int) with
      | true =>
        rw [hb] at hcell
        have HN2 : Hid (numOf a (j + 1) = 2 * t + 1) := by show _ = _; rw [HN.out, hb]; rfl
        clear hb HN
        go_wp2_with fail
        go_roundw
        case rel => exact ⟨j + 1, by omega, by go_num, by rw [HN2.out]; go_num, by first | rfl | trivial⟩
        case measure => simp [intOf]; omega
      | false =>
        rw [hb] at hcell
        have HN2 : Hid (numOf a (j + 1) = 2 * t) := by show _ = _; rw [HN.out, hb]; rfl
        clear hb HN
        go_wp2_with fail
        go_roundw
        case rel => exact ⟨j + 1, by omega, by go_num, by rw [HN2.out]; go_num, by first | rfl | trivial⟩
        case measure => simp [intOf]; omega
    · have e : j = n := by omega
      subst e
      have i1 := fun w => HJ1.out (numOf a j) w HL.out
      have ht := HB.out j (by omega)
      obtain ⟨y, hy⟩ : ∃ y, y = F (asgN j (numOf a j)) := ⟨_, rfl⟩
      rw [← hy] at i1
      have HY : Hid (y = F (asgN j (numOf a j))) := hy
      clear hy
      obtain ⟨t, ht'⟩ : ∃ t, t = numOf a j := ⟨_, rfl⟩
      rw [← ht'] at i1 ht ⊢
      clear ht'
      have ht0 : (0 : Int) ≤ (t : Int) := by omega
      cases y with
      | true =>
        simp only [bI] at i1
        go_wp2_with fail
        go_ret2
        exact ⟨by rw [← HY.out]; rfl, by first | rfl | trivial⟩
      | false =>
        simp only [bI] at i1
        go_wp2_with fail
        go_ret2
        exact ⟨by rw [← HY.out]; rfl, by first | rfl | trivial⟩

end Go.Proofs.YtmgjegokkbghlaaGreat
