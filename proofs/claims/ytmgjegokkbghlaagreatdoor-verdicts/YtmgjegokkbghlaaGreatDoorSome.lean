/- some: the least of some states. -/
import Derived.Test.YtmgjegokkbghlaaGreatDoorLow
namespace Go.Proofs.YtmgjegokkbghlaaGreatDoor
open Go.RowKit Go.Maps Bdd Circ
set_option linter.unusedVariables false

def wt2 (L j : Nat) : Nat := 2 ^ (L - 1 - j)
theorem infoI : (Tryz.prog.info? 3).map (fun i => (i.zero, i.size, i.bytes)) = some (some (.int .i64 0), 1, 8) := by kernel_rfl
theorem wsum_dig : ∀ L : Nat, L < 5 → ∀ a : Int → Bool, wsum (wt2 L) a L < 2 ^ L ∧ ∀ j : Nat, j < L → dig L (wsum (wt2 L) a L) j = a (j : Int) := by
  intro L hL a
  obtain ⟨b0, h0⟩ : ∃ b, b = a 0 := ⟨_, rfl⟩
  obtain ⟨b1, h1⟩ : ∃ b, b = a 1 := ⟨_, rfl⟩
  obtain ⟨b2, h2⟩ : ∃ b, b = a 2 := ⟨_, rfl⟩
  obtain ⟨b3, h3⟩ : ∃ b, b = a 3 := ⟨_, rfl⟩
  have hw : ∀ k : Nat, k < 5 → ∀ W : Nat → Nat, wsum W a k = wsum W (fun v => if v = 0 then b0 else if v = 1 then b1 else if v = 2 then b2 else b3) k := fun k hk W => wsum_same W k (fun i hi => by
    have : i = 0 ∨ i = 1 ∨ i = 2 ∨ i = 3 := by omega
    rcases this with rfl | rfl | rfl | rfl
    · simpa using h0.symm
    · simpa using h1.symm
    · simpa using h2.symm
    · simpa using h3.symm)
  rw [hw L hL]
  have hfin : ∀ L : Nat, L < 5 → ∀ b0 b1 b2 b3 : Bool, wsum (wt2 L) (fun v => if v = 0 then b0 else if v = 1 then b1 else if v = 2 then b2 else b3) L < 2 ^ L ∧ ∀ j : Nat, j < L → dig L (wsum (wt2 L) (fun v => if v = 0 then b0 else if v = 1 then b1 else if v = 2 then b2 else b3) L) j = (if j = 0 then b0 else if j = 1 then b1 else if j = 2 then b2 else b3) := by decide
  obtain ⟨g1, g2⟩ := hfin L hL b0 b1 b2 b3
  refine ⟨g1, fun j hj => ?_⟩
  rw [g2 j hj]
  have : j = 0 ∨ j = 1 ∨ j = 2 ∨ j = 3 := by omega
  rcases this with rfl | rfl | rfl | rfl
  · simpa using h0
  · simpa using h1
  · simpa using h2
  · simpa using h3
theorem wrap_wt (L : Nat) (hL : L < 5) (j : Nat) (hj : j < L) : wrap64 (2 ^ (L - 1 - j)) = (wt2 L j : Int) := by
  have h : ∀ L : Nat, L < 5 → ∀ j : Nat, j < L → (2 : Int) ^ (L - 1 - j) = (wt2 L j : Int) ∧ (wt2 L j : Int) ≤ 16 := by decide
  obtain ⟨h1, h2⟩ := h L hL j hj
  rw [h1]
  exact IntWalk.wrap64_in _ ⟨by omega, by omega⟩
theorem wt2_ok {L : Nat} (hL : L < 5) : WtOk (wt2 L) L := by
  refine ⟨fun i _ => Nat.one_le_two_pow, fun a => ?_⟩
  have h1 := (wsum_dig L hL a).1
  have h2 : 2 ^ L ≤ 2 ^ 4 := Nat.pow_le_pow_right (by omega) (by omega)
  have h3 : (2 : Nat) ^ 4 = 16 := rfl
  omega
/-- a state as an assignment -/
def asn (L x : Nat) : Int → Bool := fun v => if 0 ≤ v ∧ v < (L : Int) then dig L x v.toNat else false
theorem val_near {N : Tab} {top last : Int} (h : Wf N top last) {f : Int} {F : Fun} (hv : Val N f F) {L : Int} (hF : LowF L F) {a b : Int → Bool} (hab : ∀ i, 0 ≤ i → i < L → a i = b i) : F a = F b := by
  have h1 : F b = F (fun i => if i < 0 then a i else b i) := by
    rw [← hv.2, ← hv.2]
    exact E_below h hv.1 _ _ (fun i hi _ => by rw [if_neg (by omega)])
  rw [h1]
  refine hF _ _ (fun i hi => ?_)
  by_cases h0 : i < 0
  · rw [if_pos h0]
  · rw [if_neg h0]; exact hab i (by omega) hi

/-- numbers that may be written -/
def NumsD (w : World) (B L : Nat) (f : Nat → Int) : Prop := ∀ i : Nat, i < L → w.cell? ⟨B, i, none⟩ = some (.int .i64 (f i)) ∧ w.frozen? ⟨B, i, none⟩ = false
theorem NumsD.made (w : World) (L : Nat) (e : TypeId) : NumsD (w.alloc (.cells (fillD (.int .i64 0) L) e)) w.heap.size L (fun _ => 0) := by
  intro i hi
  refine ⟨?_, by simp⟩
  rw [World.cell?_alloc_at _ _ _ _ rfl]
  exact fillD_get _ hi
theorem NumsD.set {w : World} {B L : Nat} {f : Nat → Int} (h : NumsD w B L f) (k : Nat) (x : Int) : NumsD (w.setCell ⟨B, k, none⟩ (.int .i64 x)) B L (fun i => if i = k then x else f i) := by
  intro i hi
  refine ⟨?_, by rw [World.frozen?_setCell]; exact (h i hi).2⟩
  by_cases e : i = k
  · subst e
    rw [cell_set (h i hi).1]
    simp
  · rw [cell_off (by first | (simp; done) | (simp; omega)), (h i hi).1]
    simp [e]
theorem NumsD.congr {w : World} {B L : Nat} {f g : Nat → Int} (h : NumsD w B L f) (e : ∀ i, i < L → f i = g i) : NumsD w B L g := fun i hi => by rw [← e i hi]; exact h i hi

/-- the first of some states -/
def SomeIs (L : Nat) (F : Fun) (f : Int) (e : Ending) : Prop := (f = 0 ∧ e = .returned (.tuple #[.int .i64 0, .bool false])) ∨ (f ≠ 0 ∧ ∃ x : Nat, x < 2 ^ L ∧ F (asn L x) = true ∧ e = .returned (.tuple #[.int .i64 (x : Int), .bool true]))

set_option maxRecDepth 100000 in
set_option maxHeartbeats 1000000 in
theorem some_any {w : World} {m t bn bm L I K : Nat} {N : Tab} (h : Mk w m t bn bm L I K N) {f : Int} {F : Fun} (hv : Val N f F) (hF : LowF (L : Int) F) :
    Calls Tryz.prog 69 #[.pointer (some ⟨m, 0, none⟩), .int .i64 f] w fun e w' => SomeIs L F f e ∧ Keeps [] w w' := by
  obtain ⟨i0, hi0, hz0, hz1, hz2⟩ := info_parts infoI
  have hL4 := h.hL
  have hmk := makeD_run (t := 76) Tryz.underlying76 hi0 hz0 hz1 hz2 (by decide) rfl (L := L) (by omega)
  have hL0 : (0 : Int) ≤ (L : Int) := by omega
  have c1 := h.c1
  have HM := hid_intro h
  have HV := hid_intro hv
  have HF := hid_intro hF
  have hlt := h.lt
  have hne : ¬ m = w.heap.size := by omega
  clear h hv hF
  go_enter Tryz.func69, Tryz.ntmps69
  go_wp2_with fail
  clear hmk
  go_loopw [15] (fun x wr => ∃ j : Nat, j ≤ L ∧ x = .int .i64 j ∧ NumsD wr w.heap.size L (fun i => if i < j then (wt2 L i : Int) else 0) ∧ w.heap.size < wr.heap.size ∧ Keeps [] w wr) (fun x _ => L - (intOf x).toNat)
  case atStart =>
    exact ⟨0, by omega, rfl, (NumsD.made w L _).congr (fun i hi => by simp), by simp, (Keeps.refl _ _).alloc _⟩
  case round =>
    obtain ⟨j, hj, rfl, hm, hlt2, hk⟩ := hrel
    have k1 := hk.cell c1 (by simp)
    clear c1
    by_cases hjl : j < L
    · have hj0 : (0 : Int) ≤ (j : Int) := by omega
      have hj1 : (j : Int) < (L : Int) := by omega
      have d0 := (hm j hjl).1
      have d1 := (hm j hjl).2
      have HMM := hid_intro hm
      clear hm
      go_wp2_with fail
      refine ⟨⟨j + 1, by omega, by go_num, ?_, by simpa using hlt2, hk.setCell _ (Or.inr (by simp)) _⟩, by simp [intOf]; omega⟩
      refine (HMM.out.set j _).congr (fun i hi => ?_)
      rw [wrap_wt L (by omega) j hjl]
      by_cases e : i = j
      · subst e; simp
      · have : (i < j + 1) = (i < j) := by rw [eq_iff_iff]; omega
        simp [e, this]
    · obtain rfl : j = L := by omega
      have hmr := HM.out.keeps hk (by simp) (by simp) (by simp) (by simp)
      obtain ⟨sz, last, hT, _, _⟩ := hmr.tab
      obtain ⟨N', hR, hV'⟩ := low_r hT (L := (j : Int)) (by omega) HV.out HF.out
      have hwts : Wts wr w.heap.size 0 j (wt2 j) := fun i hi => by rw [Nat.zero_add, (hm i hi).1]; simp [hi]
      have HC := hid_intro (tleast_r (cap := j) (wt2_ok (L := j) (by omega)) hR hV'.1 hwts hlt2)
      have HW := hid_intro hT.wf
      have HV' := hid_intro hV'
      have c0 := hmr.c0
      clear hm hwts hR hV' hT hmr
      go_wp2_with fail
      refine Calls.mono HC.out ?_
      rintro e w1 ⟨hk1, hr⟩
      have hkk := hk.trans hk1
      clear HC
      rcases hr with ⟨h0, rfl⟩ | ⟨h0, x, hx, rfl⟩
      · go_wp2_with fail
        go_ret2
        exact ⟨Or.inl ⟨h0, rfl⟩, hkk⟩
      · have HX := hid_intro hx
        clear hx
        go_wp2_with fail
        go_ret2
        refine ⟨Or.inr ⟨h0, x, ?_, ?_, rfl⟩, hkk⟩
        · obtain ⟨⟨a, ha, hs⟩, _⟩ := HX.out
          have := (wsum_dig j (by omega) a).1
          omega
        · obtain ⟨⟨a, ha, hs⟩, _⟩ := HX.out
          have hd := (wsum_dig j (by omega) a).2
          rw [hs] at hd
          rw [HV'.out.2] at ha
          rw [← ha]
          refine val_near HW.out HV.out HF.out (fun i h1 h2 => ?_)
          obtain ⟨k, rfl⟩ := Int.eq_ofNat_of_zero_le h1
          unfold asn
          rw [if_pos ⟨h1, h2⟩]
          exact hd k (by omega)

end Go.Proofs.YtmgjegokkbghlaaGreatDoor
