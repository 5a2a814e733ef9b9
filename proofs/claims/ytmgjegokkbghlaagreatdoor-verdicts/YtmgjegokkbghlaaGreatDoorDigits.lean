/- Numbers by their digits; with, given, into. -/
import Derived.Test.YtmgjegokkbghlaaGreatDoorMach
namespace Go.Proofs.YtmgjegokkbghlaaGreatDoor
open Go.RowKit Go.Maps Bdd Circ
set_option linter.unusedVariables false

theorem infoB : (Tryz.prog.info? 4).map (fun i => (i.zero, i.size, i.bytes)) = some (some (.bool false), 1, 1) := by kernel_rfl
def fillD (z : Value) (L : Nat) : Array Value := (Array.range L).map fun _ => z
theorem fillD_get (z : Value) {L k : Nat} (hk : k < L) : (fillD z L)[k]? = some z := by simp [fillD, hk]
theorem made_fillD (z : Value) (hz : z.cells = #[z]) (L : Nat) : madeCells z.cells (L * 1) = fillD z L := by
  rw [hz, Nat.mul_one]
  unfold madeCells fillD
  congr 1
  funext x
  simp [Nat.mod_one]
theorem makeD_run {t e : TypeId} {i : TypeInfo} {z : Value} {bytes : Nat} (ht : Tryz.prog.underlying t = some (.slice e)) (hi : Tryz.prog.info? e = some i) (hz : i.zero = some z) (hs : i.size = 1) (hb : i.bytes = bytes) (hb8 : bytes ≤ 32) (hzc : z.cells = #[z]) {L : Nat} (hL : L ≤ 1000) :
    ∀ w : World, (Instr.makeSlice t (.int .i64 (L : Int)) (.int .i64 (L : Int))).run Tryz.prog w = .ok (.slice (some ⟨w.heap.size, 0, none⟩) L L) (w.alloc (.cells (fillD z L) e)) := by
  intro w
  have hbb : ((i.bytes : Nat) : Int) * (L : Int) ≤ 281474976710656 := by
    have : i.bytes * L ≤ 32 * 1000 := Nat.mul_le_mul (by omega) hL
    have h2 : ((i.bytes * L : Nat) : Int) ≤ 32000 := by omega
    rw [Int.natCast_mul] at h2
    omega
  have := run_make (P := Tryz.prog) w t e i z ht hi hz .i64 .i64 (L : Int) (L : Int) (by omega) (by omega) hbb (by omega)
  rw [hs, Int.toNat_natCast, made_fillD z hzc] at this
  exact this
/-- a list of truth values that may be written -/
def MarksD (w : World) (B L : Nat) (fr : Nat → Bool) : Prop := ∀ i : Nat, i < L → w.cell? ⟨B, i, none⟩ = some (.bool (fr i)) ∧ w.frozen? ⟨B, i, none⟩ = false
theorem MarksD.keeps {w w' : World} {B L : Nat} {fr : Nat → Bool} {S : List Nat} (h : MarksD w B L fr) (hk : Keeps S w w') (hB : B < w.heap.size) (hS : B ∉ S) : MarksD w' B L fr :=
  fun i hi => ⟨hk.cell (h i hi).1 hS, (hk.frozen (p := ⟨B, i, none⟩) hB hS).trans (h i hi).2⟩
theorem MarksD.made (w : World) (L : Nat) (e : TypeId) : MarksD (w.alloc (.cells (fillD (.bool false) L) e)) w.heap.size L (fun _ => false) := by
  intro i hi
  refine ⟨?_, by simp⟩
  rw [World.cell?_alloc_at _ _ _ _ rfl]
  exact fillD_get _ hi
theorem MarksD.set {w : World} {B L : Nat} {fr : Nat → Bool} (h : MarksD w B L fr) (k : Nat) (b : Bool) : MarksD (w.setCell ⟨B, k, none⟩ (.bool b)) B L (fun i => if i = k then b else fr i) := by
  intro i hi
  refine ⟨?_, by rw [World.frozen?_setCell]; exact (h i hi).2⟩
  by_cases e : i = k
  · subst e
    rw [cell_set (h i hi).1]
    simp
  · rw [cell_off (by first | (simp; done) | (simp; omega)), (h i hi).1]
    simp [e]
theorem MarksD.congr {w : World} {B L : Nat} {f g : Nat → Bool} (h : MarksD w B L f) (e : ∀ i, i < L → f i = g i) : MarksD w B L g := fun i hi => by rw [← e i hi]; exact h i hi

set_option maxRecDepth 100000 in
theorem bits_dig : ∀ n : Nat, n < 16 → ∀ L : Nat, L < 5 → ∀ j : Nat, j < L → (bits BinOp.and IntKind.i64 ((n : Int) / 2 ^ (L - 1 - j)) 1 == 1) = dig L n j := by decide
set_option maxRecDepth 100000 in
set_option maxHeartbeats 1000000 in
theorem digits_any {w : World} {n L : Nat} (hn : n < 16) (hL : L ≤ 4) :
    Calls Tryz.prog 72 #[.int .i64 (n : Int), .int .i64 (L : Int)] w fun e w' => e = .returned (.slice (some ⟨w.heap.size, 0, none⟩) L L) ∧ MarksD w' w.heap.size L (dig L n) ∧ w.heap.size < w'.heap.size ∧ Keeps [] w w' := by
  obtain ⟨i0, hi0, hz0, hz1, hz2⟩ := info_parts infoB
  have hmk := makeD_run (t := 22) Tryz.underlying22 hi0 hz0 hz1 hz2 (by decide) rfl (L := L) (by omega)
  have hL0 : (0 : Int) ≤ (L : Int) := by omega
  go_enter Tryz.func72, Tryz.ntmps72
  go_wp2_with fail
  clear hmk
  go_loopw [11] (fun x wr => ∃ j : Nat, j ≤ L ∧ x = .int .i64 j ∧ MarksD wr w.heap.size L (fun i => if i < j then dig L n i else false) ∧ w.heap.size < wr.heap.size ∧ Keeps [] w wr) (fun x _ => L - (intOf x).toNat)
  case atStart =>
    exact ⟨0, by omega, rfl, (MarksD.made w L _).congr (fun i hi => by simp), by simp, (Keeps.refl _ _).alloc _⟩
  case round =>
    obtain ⟨j, hj, rfl, hm, hlt, hk⟩ := hrel
    by_cases hjl : j < L
    · have hj0 : (0 : Int) ≤ (j : Int) := by omega
      have hj1 : (j : Int) < (L : Int) := by omega
      have d0 := (hm j hjl).1
      have d1 := (hm j hjl).2
      have HM := hid_intro hm
      clear hm
      go_wp2_with fail
      refine ⟨⟨j + 1, by omega, by go_num, ?_, by simpa using hlt, hk.setCell _ (Or.inr (by simp)) _⟩, by simp [intOf]; omega⟩
      refine (HM.out.set j _).congr (fun i hi => ?_)
      rw [bits_dig n hn L (by omega) j hjl]
      by_cases e : i = j
      · subst e; simp
      · have : (i < j + 1) = (i < j) := by rw [eq_iff_iff]; omega
        simp [e, this]
    · obtain rfl : j = L := by omega
      go_wp2_with fail
      go_ret
      exact ⟨rfl, hm.congr (fun i hi => by simp [hi]), hlt, hk⟩

/-- an assignment with new values from a place on -/
def putAt (a : Int → Bool) (lv n : Nat) (d : Nat → Bool) : Int → Bool := fun v => if (lv : Int) ≤ v ∧ v < ((lv + n : Nat) : Int) then d (v - lv).toNat else a v
theorem putAt_zero (a : Int → Bool) (lv : Nat) (d : Nat → Bool) : putAt a lv 0 d = a := by
  funext v
  unfold putAt
  rw [if_neg (by omega)]
theorem putAt_succ (a : Int → Bool) (lv n : Nat) (d : Nat → Bool) : putAt (setAt a ((lv + n : Nat) : Int) (d n)) lv n d = putAt a lv (n + 1) d := by
  funext v
  unfold putAt setAt
  by_cases h1 : (lv : Int) ≤ v ∧ v < ((lv + n : Nat) : Int)
  · rw [if_pos h1, if_pos (by omega)]
  · rw [if_neg h1]
    by_cases h2 : v = ((lv + n : Nat) : Int)
    · subst h2
      rw [if_pos rfl, if_pos (by omega)]
      congr 1
      omega
    · rw [if_neg h2, if_neg (by omega)]

set_option maxRecDepth 100000 in
set_option maxHeartbeats 1000000 in
theorem with_any {w : World} {m t bn bm L I K : Nat} {N : Tab} (h : Mk w m t bn bm L I K N) {f : Int} {F : Fun} (hv : Val N f F) {lv n B : Nat} {d : Nat → Bool} (hd : MarksD w B n d) (hB : B < w.heap.size) (hBS : B ∉ [t, bn, bm]) (hlv : lv + n ≤ 2 * L + I) (hn4 : n ≤ 4) (hK : K + n * 2048 ≤ Big) :
    Calls Tryz.prog 135 #[.pointer (some ⟨m, 0, none⟩), .int .i64 f, .int .i64 (lv : Int), .slice (some ⟨B, 0, none⟩) n n] w fun e w' => Res w m t bn bm L I (K + n * 2048) N (fun a => F (putAt a lv n d)) e w' := by
  have hL4 := h.hL
  have hI3 := h.hI
  go_enter Tryz.func135, Tryz.ntmps135
  go_wp2_with fail
  go_loopw [1, 13] (fun y x wr => ∃ (j : Nat) (r : Int) (N' : Tab), j ≤ n ∧ x = .int .i64 j ∧ y = .int .i64 r ∧ Mk wr m t bn bm L I (K + j * 2048) N' ∧ Ext N N' ∧ Val N' r (fun a => F (putAt a lv j d)) ∧ Keeps [t, bn, bm] w wr) (fun _ x _ => n - (intOf x).toNat)
  case atStart =>
    exact ⟨0, f, N, by omega, rfl, rfl, by simpa using h, Ext.refl _, ⟨hv.1, fun a => by show _ = F (putAt a lv 0 d); rw [putAt_zero]; exact hv.2 a⟩, Keeps.refl _ _⟩
  case round =>
    obtain ⟨j, r, N', hj, rfl, rfl, hm, hext, hval, hk⟩ := hrel
    by_cases hjl : j < n
    · have hj0 : (0 : Int) ≤ (j : Int) := by omega
      have hj1 : (j : Int) < (n : Int) := by omega
      have d0 := hk.cell (hd j hjl).1 hBS
      have c0 := hm.c0
      have hcall := mrestrict hm (lv := ((lv : Int) + (j : Int))) (d j) hval (by omega) (by omega) (by have : j * 2048 ≤ n * 2048 := Nat.mul_le_mul_right _ (by omega); omega)
      have HC := hid_intro hcall
      have HExt := hid_intro hext
      obtain ⟨b, hb⟩ : ∃ b, b = d j := ⟨_, rfl⟩
      have HBd := hid_intro hb
      rw [← hb] at d0 HC
      clear hcall hext hval hm hb hd h hv
      go_wp2_with fail
      refine Calls.mono HC.out ?_
      rintro e w1 ⟨r1, N1, rfl, g1, g2, g3, g4⟩
      have G1 := hid_intro g1
      have G2 := hid_intro g2
      have G3 := hid_intro g3
      clear g1 g2 g3 HC
      go_wp2_with fail
      refine ⟨⟨j + 1, r1, N1, by omega, by go_num, rfl, G1.out.mono (by omega), HExt.out.trans G2.out, ⟨G3.out.1, fun a => ?_⟩, hk.trans g4⟩, by simp [intOf]; omega⟩
      rw [G3.out.2, HBd.out]
      show F (putAt (setAt a ((lv : Int) + (j : Int)) (d j)) lv j d) = F (putAt a lv (j + 1) d)
      rw [← putAt_succ, Int.natCast_add]
    · obtain rfl : j = n := by omega
      have HM := hid_intro hm
      have HE := hid_intro hext
      have HV := hid_intro hval
      clear hm hext hval hd h hv
      go_wp2_with fail
      go_ret
      exact ⟨r, N', rfl, HM.out, HE.out, HV.out, hk⟩

theorem with_at {w : World} {m t bn bm L I K : Nat} {N : Tab} (h : Mk w m t bn bm L I K N) {f : Int} {F : Fun} (hv : Val N f F) {lv n B : Nat} {d : Nat → Bool} (hd : MarksD w B n d) (hB : B < w.heap.size) {lvi : Int} (hlvi : lvi = (lv : Int)) (hBS : B ∉ [t, bn, bm]) (hlv : lv + n ≤ 2 * L + I) (hn4 : n ≤ 4) (hK : K + 10000 ≤ Big) :
    Calls Tryz.prog 135 #[.pointer (some ⟨m, 0, none⟩), .int .i64 f, .int .i64 lvi, .slice (some ⟨B, 0, none⟩) n n] w fun e w' => Res w m t bn bm L I (K + 10000) N (fun a => F (putAt a lv n d)) e w' := by
  subst hlvi
  have hle : n * 2048 ≤ 10000 := by omega
  refine (with_any h hv hd hB hBS hlv hn4 (by omega)).mono ?_
  rintro e w1 ⟨r, N', rfl, g1, g2, g3, g4⟩
  exact ⟨r, N', rfl, g1.mono (by omega), g2, g3, g4⟩
/-- what is seen of a machine's head -/
def Head (m L I : Nat) (w : World) : Prop := w.cell? ⟨m, 1, none⟩ = some (.int .i64 (L : Int)) ∧ w.cell? ⟨m, 2, none⟩ = some (.int .i64 (I : Int))
theorem head_keep {m L I : Nat} {w w' : World} (h : Head m L I w) (hk : Keeps [] w w') : Head m L I w' := ⟨hk.cell h.1 (by simp), hk.cell h.2 (by simp)⟩
theorem Mk.blocks {w : World} {m t bn bm L I K : Nat} {N : Tab} (h : Mk w m t bn bm L I K N) : t < w.heap.size ∧ bn < w.heap.size ∧ bm < w.heap.size := by
  obtain ⟨sz, last, hT, _⟩ := h.tab
  exact ⟨cell_lt (p := ⟨t, 0, none⟩) hT.c0, hT.names.lt, hT.nodes.lt⟩

set_option maxRecDepth 100000 in
set_option maxHeartbeats 1000000 in
theorem given_any {w : World} {m t bn bm L I K : Nat} {N : Tab} (h : Mk w m t bn bm L I K N) {f : Int} {F : Fun} (hv : Val N f F) {i : Nat} (hi : i < 16) (hK : K + 10000 ≤ Big) :
    Calls Tryz.prog 70 #[.pointer (some ⟨m, 0, none⟩), .int .i64 f, .int .i64 (i : Int)] w fun e w' => Res w m t bn bm L I (K + 10000) N (fun a => F (putAt a (2 * L) I (dig I i))) e w' := by
  have hL4 := h.hL
  have hI3 := h.hI
  obtain ⟨b1, b2, b3⟩ := h.blocks
  have s0 : w.drew.cell? ⟨m, 1, none⟩ = some (.int .i64 (L : Int)) ∧ w.drew.cell? ⟨m, 2, none⟩ = some (.int .i64 (I : Int)) := ⟨h.c1, h.c2⟩
  have hmd : Mk w.drew m t bn bm L I K N := h.keeps (S := []) (Keeps.refl [] w).drew (by simp) (by simp) (by simp) (by simp)
  have HMD := hid_intro hmd
  have HV := hid_intro hv
  have hsz : w.drew.heap.size = w.heap.size := rfl
  clear h hv hmd
  go_enter Tryz.func70, Tryz.ntmps70
  go_wp2_with fail
  go_region_held3 (fun w' => w'.cell? ⟨m, 1, none⟩ = some (.int .i64 (L : Int)) ∧ w'.cell? ⟨m, 2, none⟩ = some (.int .i64 (I : Int)))
    (first | exact s0 | exact s1 | exact s2 | assumption)
    (first
      | (go_at_call 72; refine (digits_any (n := i) (L := I) hi (by omega)).mono ?_; rintro e w1 ⟨rfl, hm1, hlt1, hk1⟩; have hmk1 := HMD.out.keeps hk1 (by simp) (by simp) (by simp) (by simp); have s1 := And.intro hmk1.c1 hmk1.c2)
      | (go_at_call 135; refine (with_at (lv := 2 * L) hmk1 HV.out hm1 hlt1 ?z0 ?z1 ?z2 ?z3 ?z4).mono ?_; (case z0 => rw [IntWalk.i64_in _ ⟨by omega, by omega⟩]; omega); (case z1 => simp; omega); (case z2 => omega); (case z3 => omega); (case z4 => omega); rintro e w2 ⟨r, N', rfl, g1, g2, g3, g4⟩; have s2 := And.intro g1.c1 g1.c2))
  have G1 := hid_intro g1
  have G2 := hid_intro g2
  have G3 := hid_intro g3
  clear g1 g2 g3 s1 s2 hmk1 hm1 HMD HV
  go_wp2_with fail
  go_ret
  refine ⟨r, N', rfl, G1.out, G2.out, G3.out, ?_⟩
  exact ((((Keeps.refl [] w).drew.trans hk1).mono (by simp)).trans g4)

set_option maxRecDepth 100000 in
set_option maxHeartbeats 1000000 in
theorem into_any {w : World} {m t bn bm L I K : Nat} {N : Tab} (h : Mk w m t bn bm L I K N) {f : Int} {F : Fun} (hv : Val N f F) (hc4 : w.cell? ⟨m, 4, none⟩ = some (.int .i64 f)) {i : Nat} (hi : i < 16) (hK : K + 10000 ≤ Big) :
    Calls Tryz.prog 73 #[.pointer (some ⟨m, 0, none⟩), .int .i64 (i : Int)] w fun e w' => Res w m t bn bm L I (K + 10000) N (fun a => F (putAt a L L (dig L i))) e w' := by
  have hL4 := h.hL
  have hI3 := h.hI
  obtain ⟨b1, b2, b3⟩ := h.blocks
  have s0 : w.drew.cell? ⟨m, 1, none⟩ = some (.int .i64 (L : Int)) ∧ w.drew.cell? ⟨m, 4, none⟩ = some (.int .i64 f) := ⟨h.c1, hc4⟩
  have hmd : Mk w.drew m t bn bm L I K N := h.keeps (S := []) (Keeps.refl [] w).drew (by simp) (by simp) (by simp) (by simp)
  have HMD := hid_intro hmd
  have HV := hid_intro hv
  have hoff := h.off
  have HOff := hid_intro hoff
  have hsz : w.drew.heap.size = w.heap.size := rfl
  have HC4 := hid_intro hc4
  clear h hv hmd hoff hc4
  go_enter Tryz.func73, Tryz.ntmps73
  go_wp2_with fail
  go_region_held3 (fun w' => w'.cell? ⟨m, 1, none⟩ = some (.int .i64 (L : Int)) ∧ w'.cell? ⟨m, 4, none⟩ = some (.int .i64 f))
    (first | exact s0 | exact s1 | exact s2 | assumption)
    (first
      | (go_at_call 72; refine (digits_any (n := i) (L := L) hi (by omega)).mono ?_; rintro e w1 ⟨rfl, hm1, hlt1, hk1⟩; have hmk1 := HMD.out.keeps hk1 (by simp) (by simp) (by simp) (by simp); have s1 := And.intro hmk1.c1 (hk1.cell HC4.out (by simp)))
      | (go_at_call 135; refine (with_at (lv := L) hmk1 HV.out hm1 hlt1 ?z0 ?z1 ?z2 ?z3 ?z4).mono ?_; (case z0 => omega); (case z1 => simp; omega); (case z2 => omega); (case z3 => omega); (case z4 => omega); rintro e w2 ⟨r, N', rfl, g1, g2, g3, g4⟩; have s2 := And.intro g1.c1 (g4.cell (hk1.cell HC4.out (by simp)) HOff.out)))
  have G1 := hid_intro g1
  have G2 := hid_intro g2
  have G3 := hid_intro g3
  clear g1 g2 g3 s1 s2 hmk1 hm1 HMD HV
  go_wp2_with fail
  go_ret
  refine ⟨r, N', rfl, G1.out, G2.out, G3.out, ?_⟩
  exact ((((Keeps.refl [] w).drew.trans hk1).mono (by simp)).trans g4)

end Go.Proofs.YtmgjegokkbghlaaGreatDoor
