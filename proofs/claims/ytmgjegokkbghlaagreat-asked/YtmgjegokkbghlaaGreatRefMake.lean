/- The document's store: Constant. -/
import Derived.Test.YtmgjegokkbghlaaGreatRefNew
import Derived.Test.YtmgjegokkbghlaaGreatFill
namespace Go.Proofs.YtmgjegokkbghlaaGreat
open Go.RowKit Go.Maps Bdd
attribute [local go_sem ↓] Go.wp_at_zero Go.wp_at_succ

theorem infoByte : (Tryz.prog.info? 5).map (fun i => (i.zero, i.size, i.bytes)) = some (some (.int .u8 0), 1, 1) := by kernel_rfl
/-- a new list of bytes -/
theorem make_bytes {i : TypeInfo} (hi : Tryz.prog.info? 5 = some i) (hz : i.zero = some (.int .u8 0)) (hs : i.size = 1) (hb : i.bytes = 1) {L : Nat} (hL : L ≤ 256) :
    ∀ w : World, (Instr.makeSlice 111 (.int .i64 (L : Int)) (.int .i64 (L : Int))).run Tryz.prog w = .ok (.slice (some ⟨w.heap.size, 0, none⟩) L L) (w.alloc (.cells (fillV (.int .u8 0) L) 5)) := by
  intro w
  have hbb : ((i.bytes : Nat) : Int) * (L : Int) ≤ 281474976710656 := by rw [hb]; omega
  have := run_make (P := Tryz.prog) w 111 5 i (.int .u8 0) Tryz.underlying111 hi hz .i64 .i64 (L : Int) (L : Int) (by omega) (by omega) hbb (by omega)
  rw [hs, Int.toNat_natCast, made_fill _ rfl] at this
  exact this
/-- a list of bytes that is being written -/
def Bytes8 (w : World) (B L : Nat) (f : Nat → Bool) : Prop := ∀ i : Nat, i < L → w.cell? ⟨B, i, none⟩ = some (.int .u8 (if f i then 1 else 0)) ∧ w.frozen? ⟨B, i, none⟩ = false
theorem Bytes8.set {w : World} {B L : Nat} {f f' : Nat → Bool} (h : Bytes8 w B L f) {k : Nat} (x : Bool) (hx : f' k = x) (hf : ∀ i, i < L → i ≠ k → f' i = f i) : Bytes8 (w.setCell ⟨B, k, none⟩ (.int .u8 (if x then 1 else 0))) B L f' := by
  intro i hi
  refine ⟨?_, by rw [World.frozen?_setCell]; exact (h i hi).2⟩
  by_cases e : i = k
  · subst e
    rw [World.cell?_setCell_same _ _ _ (h i hi).1, hx]
  · rw [World.cell?_setCell_other _ _ _ _ (by first | (simp; done) | (simp; omega)), (h i hi).1, hf i hi e]
theorem Bytes8.text {w : World} {B n : Nat} {F : (Int → Bool) → Bool} {f : Nat → Bool} (h : Bytes8 w B (2 ^ n) f) (hf : ∀ i, i < 2 ^ n → f i = F (asgN n i)) (cap : Nat) : (convert 111 9 (.slice (some ⟨B, 0, none⟩) (2 ^ n) cap)).run Tryz.prog w = .ok (.string (txt n F)) w := by
  have hl : ((List.range (2 ^ n)).map fun i => if F (asgN n i) then (1 : UInt8) else 0).length = 2 ^ n := by simp
  have := run_convert_bytes_back (P := Tryz.prog) w 111 9 5 ⟨B, 0, none⟩ cap ((List.range (2 ^ n)).map fun i => if F (asgN n i) then (1 : UInt8) else 0) Tryz.underlying111 Tryz.underlying5 Tryz.underlying9 (fun i hi => by
    have hij : i < 2 ^ n := by omega
    rw [Addr.add_mid, Nat.zero_add, (h i hij).1, hf i hij]
    simp only [List.getElem_map, List.getElem_range]
    cases F (asgN n i) <;> rfl)
  rw [hl] at this
  exact this
/-- hold, as the calls that make a function meet it -/
def HoldsR (w : World) (r : Nat) (S : ByteArray) (R : Int → Int → World → Prop) : Prop := ∀ w1, Keeps [] w w1 → Calls Tryz.prog 86 #[.pointer (some ⟨r, 0, none⟩), .string S] w1 fun e w' => ∃ x y, e = .returned (.tuple #[.int .i64 x, .int .i64 y]) ∧ R x y w'

theorem pow_wrap {n : Nat} (hn8 : n ≤ 8) : wrap64 ((2 : Int) ^ n) = ((2 ^ n : Nat) : Int) := by
  have h2 : 2 ^ n ≤ 2 ^ 8 := Nat.pow_le_pow_right (by omega) hn8
  have e : ((2 : Int) ^ n) = ((2 ^ n : Nat) : Int) := by simp
  rw [e]
  generalize 2 ^ n = p at h2
  exact IntWalk.wrap64_in _ ⟨by omega, by omega⟩
set_option maxRecDepth 100000 in
theorem rsize_any {w : World} {r n : Nat} (hn8 : n ≤ 8) (hc : w.cell? ⟨r, 0, none⟩ = some (.int .i64 (n : Int))) : Calls Tryz.prog 84 #[.pointer (some ⟨r, 0, none⟩)] w fun e w' => e = .returned (.int .i64 ((2 ^ n : Nat) : Int)) ∧ w = w' := by
  have hn0 : (0 : Int) ≤ (n : Int) := by omega
  have hn9 : (n : Int) ≤ 8 := by omega
  have HP : Hid (wrap64 ((2 : Int) ^ n) = ((2 ^ n : Nat) : Int)) := pow_wrap hn8
  obtain ⟨P, hP⟩ : ∃ P : Nat, P = 2 ^ n := ⟨_, rfl⟩
  rw [← hP] at HP ⊢
  clear hP
  go_enter Tryz.func84, Tryz.ntmps84
  go_wp2_with fail
  go_ret
  exact ⟨by rw [← HP.out]; rfl, rfl⟩
set_option maxRecDepth 100000 in
theorem rtruth_any {w : World} (b : Bool) : Calls Tryz.prog 85 #[.bool b] w fun e w' => e = .returned (.int .u8 (if b then 1 else 0)) ∧ w = w' := by
  cases b with
  | true =>
    go_enter Tryz.func85, Tryz.ntmps85
    go_wp2_with fail
    go_ret
    exact ⟨rfl, rfl⟩
  | false =>
    go_enter Tryz.func85, Tryz.ntmps85
    go_wp2_with fail
    go_ret
    exact ⟨rfl, rfl⟩

set_option maxRecDepth 100000 in
set_option maxHeartbeats 1000000 in
theorem rconstant_any {w : World} {r n : Nat} (hn8 : n ≤ 8) (hc : w.cell? ⟨r, 0, none⟩ = some (.int .i64 (n : Int))) (b : Bool) {R : Int → Int → World → Prop} (hh : HoldsR w r (txt n (fun _ => b)) R) :
    Calls Tryz.prog 32 #[.pointer (some ⟨r, 0, none⟩), .bool b] w fun e w' => ∃ x y, e = .returned (.tuple #[.int .i64 x, .int .i64 y]) ∧ R x y w' := by
  obtain ⟨i5, hi5, hz0, hz1, hz2⟩ := info_parts infoByte
  have h256 : 2 ^ n ≤ 256 := by
    have : 2 ^ n ≤ 2 ^ 8 := Nat.pow_le_pow_right (by omega) hn8
    omega
  have HMB : Hid (∀ w : World, (Instr.makeSlice 111 (.int .i64 ((2 ^ n : Nat) : Int)) (.int .i64 ((2 ^ n : Nat) : Int))).run Tryz.prog w = .ok (.slice (some ⟨w.heap.size, 0, none⟩) (2 ^ n) (2 ^ n)) (w.alloc (.cells (fillV (.int .u8 0) (2 ^ n)) 5))) := make_bytes hi5 hz0 hz1 hz2 h256
  have HH : Hid (HoldsR w r (txt n (fun _ => b)) R) := hh
  clear hh hi5 hz0 hz1 hz2
  go_enter Tryz.func32, Tryz.ntmps32
  obtain ⟨P, hP⟩ : ∃ P : Nat, P = 2 ^ n := ⟨_, rfl⟩
  have hsz := rsize_any (w := w) hn8 hc
  rw [← hP] at HMB h256 hsz
  have HPP : Hid (P = 2 ^ n) := hP
  have hP0 : (0 : Int) ≤ (P : Int) := by omega
  have hP1 : (P : Int) ≤ 256 := by omega
  clear hP
  go_wp2_with fail
  refine hsz.mono ?_
  rintro e w1 ⟨rfl, rfl⟩
  go_wp2_with (first
    | (at_make; refine wpList_make_at rfl _ _ 111 rfl (.int .i64 (P : Int)) (.int .i64 (P : Int)) _ rfl rfl (HMB.out _) ?_)
    | fail)
  obtain ⟨Y, hY⟩ : ∃ Y, Y = w.alloc (Obj.cells (fillV (Value.int .u8 0) P) 5) := ⟨_, rfl⟩
  rw [← hY]
  have hkY : Keeps [] w Y := by rw [hY]; exact (Keeps.refl _ _).alloc _
  have b2 : Bytes8 Y w.heap.size P (fun i => if i < 0 then b else false) := fun k hk => by
    rw [hY]
    exact ⟨cell_new w _ _ rfl (fillV_get _ hk), World.frozen?_alloc_at _ _ _ _ rfl⟩
  have HB2 : Hid (Bytes8 Y w.heap.size P (fun i => if i < 0 then b else false)) := b2
  clear hY b2
  go_loopw [7] (fun i wr => ∃ j : Nat, j ≤ P ∧ i = .int .i64 j ∧ Hid (Bytes8 wr w.heap.size P (fun i => if i < j then b else false)) ∧ Keeps [w.heap.size] Y wr) (fun i _ => P - (intOf i).toNat)
  case atStart => exact ⟨0, by omega, rfl, HB2.out, Keeps.refl _ _⟩
  case round =>
    clear HB2
    obtain ⟨j, hj, rfl, hB, hkr⟩ := hrel
    by_cases hlt : j < P
    · have hj0 : (0 : Int) ≤ (j : Int) := by omega
      have hj1 : (j : Int) < (P : Int) := by omega
      have p1 := (hB.out j hlt).1
      have p2 := (hB.out j hlt).2
      have hB' := hB.out.set (k := j) (f' := fun i => if i < j + 1 then b else false) b (by simp) (fun i _ hi => by
        by_cases hij : i < j
        · rw [if_pos hij, if_pos (by omega)]
        · rw [if_neg hij, if_neg (by omega)])
      have HB' : Hid (Bytes8 (wr.setCell ⟨w.heap.size, j, none⟩ (.int .u8 (if b then 1 else 0))) w.heap.size P (fun i => if i < j + 1 then b else false)) := hB'
      have htr := rtruth_any (w := wr) b
      generalize (if b then (1 : Int) else 0) = xb at HB' htr
      clear hB' hB
      go_wp2_with fail
      refine htr.mono ?_
      rintro e w2 ⟨rfl, rfl⟩
      go_wp2_with fail
      go_roundw
      case rel => exact ⟨j + 1, by omega, by go_num, HB'.out, hkr.setCell _ (Or.inl (by simp)) _⟩
      case measure => simp [intOf]; omega
    · have ej : j = P := by omega
      subst ej
      have hjj : ¬ (j : Int) < (j : Int) := by omega
      have hconv := (HPP.out ▸ hB.out : Bytes8 wr w.heap.size (2 ^ n) (fun i => if i < 2 ^ n then b else false)).text (F := fun _ => b) (fun i hi => by simp only [hi, if_true]) (2 ^ n)
      rw [← HPP.out] at hconv
      have hkw : Keeps [] w wr := ((hkY.mono (by simp)).trans hkr).strike (by simp)
      have hcall := HH.out wr hkw
      clear hB
      go_wp2_with fail
      refine hcall.mono ?_
      rintro e w3 ⟨x, y, rfl, hR⟩
      go_wp2_with fail
      go_ret2
      exact ⟨x, y, rfl, hR⟩

end Go.Proofs.YtmgjegokkbghlaaGreat
