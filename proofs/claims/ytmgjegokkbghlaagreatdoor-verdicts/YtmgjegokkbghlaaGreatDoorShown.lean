/- shown: the verdict that shows a way. -/
import Derived.Test.YtmgjegokkbghlaaGreatDoorBack
namespace Go.Proofs.YtmgjegokkbghlaaGreatDoor
open Go.RowKit Go.Maps Bdd Circ Gram Runs
set_option linter.unusedVariables false
attribute [local go_sem ↓] Go.wp_at_zero Go.wp_at_succ

theorem infoBs : (Tryz.prog.info? 22).map (fun i => (i.zero, i.size, i.bytes)) = some (some (.slice none 0 0), 1, 24) := by kernel_rfl
/-- lists of truth values, from place q on -/
def Lists (w : World) (V I n q : Nat) (f : Nat → Nat → Bool) (bk : Nat → Nat) : Prop := ∀ j, j < n → w.frozen? ⟨V, j, none⟩ = false ∧ (∃ u, w.cell? ⟨V, j, none⟩ = some u) ∧ (q ≤ j → w.cell? ⟨V, j, none⟩ = some (.slice (some ⟨bk j, 0, none⟩) I I) ∧ MarksD w (bk j) I (f j) ∧ V + 1 < bk j ∧ bk j < w.heap.size ∧ ∀ j', j' < n → j < j' → bk j' < bk j)
/-- what shown answers -/
def ShownIs (w w' : World) (L I n1 s : Nat) (is : List Nat) (e : Ending) : Prop := ∃ (S V : Nat) (bk : Nat → Nat), e = .returned (.agg #[.bool false, .int .i64 0, .slice (some ⟨S, 0, none⟩) L L, .slice (some ⟨V, 0, none⟩) (n1 + 1) (n1 + 1)]) ∧ MarksD w' S L (dig L s) ∧ Lists w' V I (n1 + 1) 0 (fun j => dig I (is.getD j 0)) bk ∧ w.heap.size ≤ V ∧ V < S ∧ (∀ j, j < n1 + 1 → bk j < S) ∧ S < w'.heap.size

theorem Lists.set {w w2 : World} {V I n q b : Nat} {f : Nat → Nat → Bool} {bk : Nat → Nat} (h : Lists w V I n (q + 1) f bk) (hk : Keeps [] w w2) (hV1 : V + 1 < w.heap.size) (hb : w.heap.size ≤ b) (hb2 : b < w2.heap.size) (hm : MarksD w2 b I (f q)) (hq : q < n) : Lists (w2.setCell ⟨V, q, none⟩ (.slice (some ⟨b, 0, none⟩) I I)) V I n q f (fun j => if j = q then b else bk j) := by
  have hV : V < w.heap.size := by omega
  have hks : Keeps [V] w2 (w2.setCell ⟨V, q, none⟩ (.slice (some ⟨b, 0, none⟩) I I)) := (Keeps.refl _ _).setCell _ (Or.inl (by simp)) _
  intro j hj
  obtain ⟨h1, ⟨u, hu⟩, h3⟩ := h j hj
  have hf : w2.frozen? ⟨V, j, none⟩ = false := by rw [hk.frozen hV (by simp)]; exact h1
  have hu2 := hk.cell hu (by simp)
  refine ⟨by rw [World.frozen?_setCell]; exact hf, ?_, fun hqj => ?_⟩
  · by_cases e : j = q
    · subst e; exact ⟨_, World.cell?_setCell_same _ _ _ hu2⟩
    · exact ⟨u, by rw [World.cell?_setCell_other _ _ _ _ (by intro e'; cases e'; omega)]; exact hu2⟩
  · by_cases e : j = q
    · subst e
      simp only [if_true]
      refine ⟨World.cell?_setCell_same _ _ _ hu2, hm.keeps hks hb2 (by simp; omega), by omega, by simpa using hb2, fun j' hj' hlt => ?_⟩
      rw [if_neg (by omega)]
      have := ((h j' hj').2.2 (by omega)).2.2.2.1
      omega
    · simp only [if_neg e]
      obtain ⟨k1, k2, k3, k4, k5⟩ := h3 (by omega)
      refine ⟨by rw [World.cell?_setCell_other _ _ _ _ (by intro e'; cases e'; omega)]; exact hk.cell k1 (by simp), (k2.keeps hk k4 (by simp)).keeps hks (Nat.lt_of_lt_of_le k4 hk.size) (by simp; omega), k3, by have := hk.size; simp; omega, fun j' hj' hlt => ?_⟩
      rw [if_neg (by omega)]
      exact k5 j' hj' hlt
theorem Lists.keeps {w w' : World} {V I n q : Nat} {f : Nat → Nat → Bool} {bk : Nat → Nat} {S : List Nat} (h : Lists w V I n q f bk) (hk : Keeps S w w') (hV : V < w.heap.size) (hS : ∀ x ∈ S, x < w.heap.size → x ≠ V ∧ ∀ j, j < n → bk j ≠ x) : Lists w' V I n q f bk := by
  have hVS : V ∉ S := fun hin => (hS V hin hV).1 rfl
  intro j hj
  obtain ⟨h1, ⟨u, hu⟩, h3⟩ := h j hj
  refine ⟨by rw [hk.frozen hV hVS]; exact h1, ⟨u, hk.cell hu hVS⟩, fun hq => ?_⟩
  obtain ⟨k1, k2, k3, k4, k5⟩ := h3 hq
  exact ⟨hk.cell k1 hVS, k2.keeps hk k4 (fun hin => (hS _ hin k4).2 j hj rfl), k3, Nat.lt_of_lt_of_le k4 hk.size, k5⟩

def boxed4 (w : World) (b : Nat) (v0 v1 v2 v3 : Value) : World := (((w.setCell ⟨b, 0, none⟩ v0).setCell ⟨b, 1, none⟩ v1).setCell ⟨b, 2, none⟩ v2).setCell ⟨b, 3, none⟩ v3
theorem box_four {w : World} {b : Nat} {u0 u1 u2 u3 : Value} (h0 : w.cell? ⟨b, 0, none⟩ = some u0) (h1 : w.cell? ⟨b, 1, none⟩ = some u1) (h2 : w.cell? ⟨b, 2, none⟩ = some u2) (h3 : w.cell? ⟨b, 3, none⟩ = some u3) (v0 v1 v2 v3 : Value) : (boxed4 w b v0 v1 v2 v3).cell? ⟨b, 0, none⟩ = some v0 ∧ (boxed4 w b v0 v1 v2 v3).cell? ⟨b, 1, none⟩ = some v1 ∧ (boxed4 w b v0 v1 v2 v3).cell? ⟨b, 2, none⟩ = some v2 ∧ (boxed4 w b v0 v1 v2 v3).cell? ⟨b, 3, none⟩ = some v3 := by
  have o : ∀ (w : World) (i j : Nat) (v u : Value), i ≠ j → w.cell? ⟨b, i, none⟩ = some u → (w.setCell ⟨b, j, none⟩ v).cell? ⟨b, i, none⟩ = some u := fun w i j v u hij h => by
    rw [World.cell?_setCell_other _ _ _ _ (by intro e; cases e; omega)]; exact h
  unfold boxed4
  refine ⟨?_, ?_, ?_, ?_⟩
  · exact o _ _ _ _ _ (by omega) (o _ _ _ _ _ (by omega) (o _ _ _ _ _ (by omega) (World.cell?_setCell_same _ _ _ h0)))
  · exact o _ _ _ _ _ (by omega) (o _ _ _ _ _ (by omega) (World.cell?_setCell_same _ _ _ (o _ _ _ _ _ (by omega) h1)))
  · exact o _ _ _ _ _ (by omega) (World.cell?_setCell_same _ _ _ (o _ _ _ _ _ (by omega) (o _ _ _ _ _ (by omega) h2)))
  · exact World.cell?_setCell_same _ _ _ (o _ _ _ _ _ (by omega) (o _ _ _ _ _ (by omega) (o _ _ _ _ _ (by omega) h3)))
theorem boxed4_keeps (w : World) (b : Nat) (v0 v1 v2 v3 : Value) : Keeps [b] w (boxed4 w b v0 v1 v2 v3) := ((((Keeps.refl _ _).setCell _ (Or.inl (by simp)) _).setCell _ (Or.inl (by simp)) _).setCell _ (Or.inl (by simp)) _).setCell _ (Or.inl (by simp)) _

set_option maxRecDepth 100000 in
set_option maxHeartbeats 4000000 in
theorem shown_any {w : World} {m t bn bm L I K : Nat} {N : Tab} (h : Mk w m t bn bm L I K N) {a : Option Addr} {c n1 B : Nat} {p : Nat × Nat} {r : List (Nat × Nat)} (hr : r.length = n1) (hn : n1 ≤ 15) (hw : WayAt w B a (p :: r).reverse) (hp : ∀ x ∈ p :: r, x.1 < 16 ∧ x.2 < 16) :
    Calls Tryz.prog 41 #[.pointer (some ⟨m, 0, none⟩), .slice a (n1 + 1) c] w fun e w' => ShownIs w w' L I n1 p.1 ((p :: r).map (·.2)) e ∧ Keeps [] w w' := by
  obtain ⟨i0, hi0, hz0, hz1, hz2⟩ := info_parts infoBs
  have hL4 := h.hL
  have hI3 := h.hI
  have hmw := h.lt
  have hl : (p :: r).reverse.length = n1 + 1 := by simp [hr]
  have hmk : (Instr.makeSlice 23 (.int .i64 ((n1 + 1 : Nat) : Int)) (.int .i64 ((n1 + 1 : Nat) : Int))).run Tryz.prog = fun w => .ok (.slice (some ⟨w.heap.size, 0, none⟩) (n1 + 1) (n1 + 1)) (w.alloc (.cells (fillD (.slice none 0 0) (n1 + 1)) 22)) := funext (makeD_run (t := 23) Tryz.underlying23 hi0 hz0 hz1 hz2 (by decide) rfl (L := n1 + 1) (by omega))
  have hmk' : ∀ w, (Instr.makeSlice 23 (.int .i64 ((n1 : Int) + 1)) (.int .i64 ((n1 : Int) + 1))).run Tryz.prog w = .ok (.slice (some ⟨w.heap.size, 0, none⟩) (n1 + 1) (n1 + 1)) (w.alloc (.cells (fillD (.slice none 0 0) (n1 + 1)) 22)) := fun w => by
    have := congrFun hmk w
    rwa [Int.natCast_add] at this
  have c1 := h.c1
  have c2 := h.c2
  have HM := hid_intro h
  have HW := hid_intro hw
  have HP := hid_intro hp
  have HR := hid_intro hr
  have HL := hid_intro hl
  clear h hw hp hr hl hmk
  go_enter Tryz.func41, Tryz.ntmps41
  go_wp2_with fail
  obtain ⟨R, hR⟩ : ∃ R, R = w.heap.size := ⟨_, rfl⟩
  obtain ⟨V, hV⟩ : ∃ V, V = w.heap.size + 1 := ⟨_, rfl⟩
  obtain ⟨D, hD⟩ : ∃ D, D = w.heap.size + 1 + 1 := ⟨_, rfl⟩
  rw [← hD, ← hV, ← hR]
  obtain ⟨W0, hW0⟩ : ∃ W0, W0 = (((w.alloc (.cells #[.bool false, .int .i64 0, .slice none 0 0, .slice none 0 0] 25)).alloc (.cells (fillD (.slice none 0 0) (n1 + 1)) 22)).alloc (.cells #[.bool false, .int .i64 0, .slice none 0 0, .slice (some ⟨V, 0, none⟩) (n1 + 1) (n1 + 1)] 25)) := ⟨_, rfl⟩
  rw [← hW0]
  have hsz0 : W0.heap.size = w.heap.size + 3 := by rw [hW0]; simp
  have hk0 : Keeps [] w W0 := by rw [hW0]; exact (((Keeps.refl _ _).alloc _).alloc _).alloc _
  have hDc : ∀ q u, (#[.bool false, .int .i64 0, .slice none 0 0, .slice (some ⟨V, 0, none⟩) (n1 + 1) (n1 + 1)] : Array Value)[q]? = some u → W0.cell? ⟨D, q, none⟩ = some u := fun q u hu => by
    rw [hW0, hD, World.cell?_alloc_at _ _ _ _ (by simp)]; exact hu
  have hRc : ∀ q u, (#[.bool false, .int .i64 0, .slice none 0 0, .slice none 0 0] : Array Value)[q]? = some u → W0.cell? ⟨R, q, none⟩ = some u := fun q u hu => by
    rw [hW0, hR]
    refine ((Keeps.refl [] _).alloc _).cell (((Keeps.refl [] _).alloc _).cell ?_ (by simp)) (by simp)
    rw [World.cell?_alloc_at _ _ _ _ rfl]; exact hu
  have hDf : ∀ q, W0.frozen? ⟨D, q, none⟩ = false := fun q => by rw [hW0, hD, World.frozen?_alloc_at _ _ _ _ (by simp)]
  have hRf : ∀ q, W0.frozen? ⟨R, q, none⟩ = false := fun q => by
    rw [hW0, hR, ((Keeps.refl [] _).alloc _).frozen (by simp; omega) (by simp), ((Keeps.refl [] _).alloc _).frozen (by simp) (by simp), World.frozen?_alloc_at _ _ _ _ rfl]
  have hVl : Lists W0 V I (n1 + 1) (n1 + 1) (fun j => dig I (((p :: r).map (·.2)).getD j 0)) (fun _ => 0) := fun j hj => by
    refine ⟨?_, ⟨.slice none 0 0, ?_⟩, fun hq => by omega⟩
    · rw [hW0, hV, ((Keeps.refl [] _).alloc _).frozen (by simp) (by simp), World.frozen?_alloc_at _ _ _ _ (by simp)]
    · rw [hW0, hV]
      refine ((Keeps.refl [] _).alloc _).cell ?_ (by simp)
      rw [World.cell?_alloc_at _ _ _ _ (by simp)]
      exact fillD_get _ hj
  have hblk : R < V ∧ V < D ∧ D < W0.heap.size ∧ w.heap.size ≤ R := by omega
  have hmR : m < R := by omega
  have HDV : Hid (D = V + 1) := show D = V + 1 by omega
  have HDc := hid_intro hDc
  have HRc := hid_intro hRc
  have HDf := hid_intro hDf
  have HRf := hid_intro hRf
  have HVl := hid_intro hVl
  have HR0 := hid_intro hR
  clear hDc hRc hDf hRf hVl hW0 hsz0 hD hV hR c1 c2 hmk'
  go_loopw [14] (fun x wr => ∃ (i : Nat) (bk : Nat → Nat), i ≤ n1 + 1 ∧ x = .int .i64 i ∧ Lists wr V I (n1 + 1) (n1 + 1 - i) (fun j => dig I (((p :: r).map (·.2)).getD j 0)) bk ∧ Keeps [V] W0 wr) (fun x _ => n1 + 1 - (intOf x).toNat)
  case atStart => exact ⟨0, _, by omega, rfl, HVl.out, Keeps.refl _ _⟩
  case round =>
    clear HVl
    obtain ⟨i, bk, hi, rfl, hls, hk⟩ := hrel
    have hkw : Keeps [] w wr := ((hk0.mono (by simp)).trans hk).strike (fun i hi hlt => by simp at hi; omega)
    have hszr : W0.heap.size ≤ wr.heap.size := hk.size
    by_cases hin : i < n1 + 1
    · have hi0 : (0 : Int) ≤ (i : Int) := by omega
      have hi1 : (i : Int) < (n1 : Int) + 1 := by omega
      obtain ⟨q, hq⟩ : ∃ q, q + i = n1 := ⟨n1 - i, by omega⟩
      have hil : i < (p :: r).reverse.length := by rw [HL.out]; exact hin
      obtain ⟨g, hga, hgB, hgl, y0, y1⟩ := HW.out i hil
      obtain ⟨v, hv⟩ : ∃ v, v = (p :: r).reverse[i] := ⟨_, rfl⟩
      rw [← hv] at y0 y1
      have hvm : v ∈ p :: r := by rw [hv]; exact List.mem_reverse.1 (List.getElem_mem hil)
      have hv16 := HP.out v hvm
      have hvq : ((p :: r).map (·.2)).getD q 0 = v.2 := by
        have hr := HR.out
        have hql : q < (p :: r).length := by simp; omega
        rw [List.getD_eq_getElem?_getD, List.getElem?_map, List.getElem?_eq_getElem hql, hv, List.getElem_reverse]
        simp only [Option.map_some, Option.getD_some]
        congr 2
        simp; omega
      have e0 := hkw.cell y0 (by simp)
      have e1 := hkw.cell y1 (by simp)
      rw [show n1 + 1 - i = q + 1 by omega] at hls
      have HLs := hid_intro hls
      have HVq := hid_intro hvq
      subst hga
      clear hv hvm hvq y0 y1 hls hil
      go_upto_region 5 with fail
      obtain ⟨wa, hwa⟩ : ∃ wa, wa = wr.alloc (.cells #[.int .i64 (v.1 : Int), .int .i64 (v.2 : Int)] 103) := ⟨_, rfl⟩
      obtain ⟨A, hA⟩ : ∃ A, A = wr.heap.size := ⟨_, rfl⟩
      rw [← hwa, ← hA]
      have hka : Keeps [] wr wa := by rw [hwa]; exact (Keeps.refl _ _).alloc _
      have x1 : wa.cell? ⟨A, 1, none⟩ = some (.int .i64 (v.2 : Int)) := by rw [hwa, hA, World.cell?_alloc_at _ _ _ _ rfl]; rfl
      have x3 : wa.cell? ⟨D, 3, none⟩ = some (.slice (some ⟨V, 0, none⟩) (n1 + 1) (n1 + 1)) := hka.cell (hk.cell (HDc.out 3 _ rfl) (by simp; omega)) (by simp)
      have c2 : wa.cell? ⟨m, 2, none⟩ = some (.int .i64 (I : Int)) := hka.cell (hkw.cell HM.out.c2 (by simp)) (by simp)
      have hls2 := HLs.out.keeps hka (by omega) (by simp)
      obtain ⟨hf1, ⟨u, hu⟩, _⟩ := hls2 q (by omega)
      have hszA : wa.heap.size = A + 1 := by rw [hwa, hA]; simp
      have HLs2 := hid_intro hls2
      have s0 : wa.drew.cell? ⟨D, 3, none⟩ = some (.slice (some ⟨V, 0, none⟩) (n1 + 1) (n1 + 1)) ∧ wa.drew.cell? ⟨A, 1, none⟩ = some (.int .i64 (v.2 : Int)) ∧ wa.drew.cell? ⟨m, 2, none⟩ = some (.int .i64 (I : Int)) := ⟨x3, x1, c2⟩
      have hAle : A = wr.heap.size := hA
      have HA := hid_intro hA
      have hbnd : D < A := by omega
      have hd1 : IntKind.i64.wrap ((n1 : Int) + 1 - 1) = (n1 : Int) := by rw [IntWalk.i64_in _ ⟨by omega, by omega⟩]; omega
      have hd1' : IntKind.i64.wrap (n1 : Int) = (n1 : Int) := IntWalk.i64_in _ ⟨by omega, by omega⟩
      have hd2 : IntKind.i64.wrap ((n1 : Int) - (i : Int)) = (q : Int) := by rw [IntWalk.i64_in _ ⟨by omega, by omega⟩]; omega
      have hq0 : (0 : Int) ≤ (q : Int) := by omega
      have hq1 : (q : Int) < (n1 : Int) + 1 := by omega
      clear hwa hA hAle e0 e1 x1 x3 c2 hls2 HLs hi0 hi1 hszr
      go_region_held3 (fun w' => w'.cell? ⟨D, 3, none⟩ = some (.slice (some ⟨V, 0, none⟩) (n1 + 1) (n1 + 1)) ∧ w'.cell? ⟨A, 1, none⟩ = some (.int .i64 (v.2 : Int)) ∧ w'.cell? ⟨m, 2, none⟩ = some (.int .i64 (I : Int)))
        (first | exact s0 | exact s1 | exact s2 _ | assumption)
        (first | (go_at_call 72; refine (digits_any (n := v.2) (L := I) hv16.2 ?z0).mono ?_; (case z0 => omega); rintro e2 w2 ⟨rfl, hm2, hlt2, hk2⟩; have s1 := And.intro (hk2.cell s0.1 (by simp)) (And.intro (hk2.cell s0.2.1 (by simp)) (hk2.cell s0.2.2 (by simp))); have s2 := fun (u : Value) => And.intro (((Keeps.refl [V] w2).setCell ⟨V, q, none⟩ (Or.inl (by simp)) u).cell s1.1 (by simp; omega)) (And.intro (((Keeps.refl [V] w2).setCell ⟨V, q, none⟩ (Or.inl (by simp)) u).cell s1.2.1 (by simp; omega)) (((Keeps.refl [V] w2).setCell ⟨V, q, none⟩ (Or.inl (by simp)) u).cell s1.2.2 (by simp; omega))); have hu2 := hk2.cell (p := ⟨V, q, none⟩) hu (by simp); have hf2 := (hk2.frozen (p := ⟨V, q, none⟩) (by show V < wa.heap.size; omega) (by simp)).trans hf1))
      have hds : wa.drew.heap.size = A + 1 := hszA
      rw [hds] at hm2 hlt2
      have hset := Lists.set (b := A + 1) (I := I) HLs2.out ((Keeps.refl [] wa).drew.trans hk2) (by omega) (by omega) hlt2 (by show MarksD w2 (A + 1) I (dig I _); rw [HVq.out]; exact hm2) (by omega)
      have HSet := hid_intro hset
      have hkf : Keeps [V] W0 (w2.setCell ⟨V, q, none⟩ (.slice (some ⟨A + 1, 0, none⟩) I I)) := ((hk.trans (hka.mono (by simp))).drew.trans (hk2.mono (by simp))).setCell _ (Or.inl (by simp)) _
      clear s0 s1 s2 hset hm2 hu2 hf2 hu hf1 HLs2 hd1 hd1' hd2
      go_wp2_with fail
      exact ⟨⟨i + 1, _, by omega, by go_num, by rw [show n1 + 1 - (i + 1) = q by omega]; exact HSet.out, hkf⟩, by simp [intOf]; omega⟩
    · obtain rfl : i = n1 + 1 := by omega
      rw [Nat.sub_self] at hls
      have hil : n1 < (p :: r).reverse.length := by rw [HL.out]; omega
      obtain ⟨g, hga, hgB, hgl, y0, y1⟩ := HW.out n1 hil
      have hv : ((p :: r).reverse[n1]).1 = p.1 := by
        have hr := HR.out
        rw [List.getElem_reverse]
        simp [hr]
      rw [hv] at y0
      have hp16 := (HP.out p (by simp)).1
      have HLs := hid_intro hls
      have e0 := hkw.cell y0 (by simp)
      have c1 := hkw.cell HM.out.c1 (by simp)
      have d2 := hk.cell (HDc.out 2 _ rfl) (by simp; omega)
      have fd2 := (hk.frozen (p := ⟨D, 2, none⟩) (by show D < W0.heap.size; omega) (by simp; omega)).trans (HDf.out 2)
      have s0 : wr.drew.cell? ⟨g, n1 * 2, none⟩ = some (.int .i64 (p.1 : Int)) ∧ wr.drew.cell? ⟨m, 1, none⟩ = some (.int .i64 (L : Int)) := ⟨e0, c1⟩
      have hd1 : IntKind.i64.wrap ((n1 : Int) + 1 - 1) = (n1 : Int) := by rw [IntWalk.i64_in _ ⟨by omega, by omega⟩]; omega
      have hd1' : IntKind.i64.wrap (n1 : Int) = (n1 : Int) := IntWalk.i64_in _ ⟨by omega, by omega⟩
      have hq0 : (0 : Int) ≤ (n1 : Int) := by omega
      have hq1 : (n1 : Int) < (n1 : Int) + 1 := by omega
      subst hga
      clear y0 y1 hls hil hv e0 c1
      go_wp2_with fail
      go_region_held3 (fun w' => w'.cell? ⟨g, n1 * 2, none⟩ = some (.int .i64 (p.1 : Int)) ∧ w'.cell? ⟨m, 1, none⟩ = some (.int .i64 (L : Int)))
        (first | exact s0 | exact s1 | exact s2 _ | assumption)
        (first | (go_at_call 72; refine (digits_any (n := p.1) (L := L) hp16 ?z0).mono ?_; (case z0 => omega); rintro e2 w2 ⟨rfl, hm2, hlt2, hk2⟩; have s1 := And.intro (hk2.cell s0.1 (by simp)) (hk2.cell s0.2 (by simp)); have s2 := fun (u : Value) => And.intro (((Keeps.refl [D] w2).setCell ⟨D, 2, none⟩ (Or.inl (by simp)) u).cell s1.1 (by simp; omega)) (((Keeps.refl [D] w2).setCell ⟨D, 2, none⟩ (Or.inl (by simp)) u).cell s1.2 (by simp; omega)); have hu2 := hk2.cell (p := ⟨D, 2, none⟩) d2 (by simp); have hf2 := (hk2.frozen (p := ⟨D, 2, none⟩) (by show D < wr.heap.size; omega) (by simp)).trans fd2))
      obtain ⟨w3, hw3⟩ : ∃ w3, w3 = w2.setCell ⟨D, 2, none⟩ (.slice (some ⟨wr.heap.size, 0, none⟩) L L) := ⟨_, rfl⟩
      obtain ⟨S, hS⟩ : ∃ S, S = wr.heap.size := ⟨_, rfl⟩
      have hds : wr.drew.heap.size = S := hS.symm
      have hk2' : Keeps [] wr w2 := (Keeps.refl [] wr).drew.trans hk2
      rw [← hS] at hw3
      rw [← hS, ← hw3]
      rw [hds] at hm2 hlt2
      have hk3 : Keeps [D] w2 w3 := by rw [hw3]; exact (Keeps.refl _ _).setCell _ (Or.inl (by simp)) _
      have g0 : w3.cell? ⟨D, 0, none⟩ = some (.bool false) := by rw [hw3, World.cell?_setCell_other _ _ _ _ (by simp)]; exact hk2'.cell (hk.cell (HDc.out 0 _ rfl) (by simp; omega)) (by simp)
      have g1 : w3.cell? ⟨D, 1, none⟩ = some (.int .i64 0) := by rw [hw3, World.cell?_setCell_other _ _ _ _ (by simp)]; exact hk2'.cell (hk.cell (HDc.out 1 _ rfl) (by simp; omega)) (by simp)
      have g2 : w3.cell? ⟨D, 2, none⟩ = some (.slice (some ⟨S, 0, none⟩) L L) := by rw [hw3]; exact World.cell?_setCell_same _ _ _ hu2
      have g3 : w3.cell? ⟨D, 3, none⟩ = some (.slice (some ⟨V, 0, none⟩) (n1 + 1) (n1 + 1)) := by rw [hw3, World.cell?_setCell_other _ _ _ _ (by simp)]; exact hk2'.cell (hk.cell (HDc.out 3 _ rfl) (by simp; omega)) (by simp)
      have hRc3 : ∀ q u, (#[.bool false, .int .i64 0, .slice none 0 0, .slice none 0 0] : Array Value)[q]? = some u → w3.cell? ⟨R, q, none⟩ = some u := fun q u hu => hk3.cell (hk2'.cell (hk.cell (HRc.out q u hu) (by simp; omega)) (by simp)) (by simp; omega)
      have hRf3 : ∀ q, w3.frozen? ⟨R, q, none⟩ = false := fun q => by
        have hrd : R < w2.heap.size := by omega
        rw [hk3.frozen hrd (by simp; omega), hk2'.frozen (show R < wr.heap.size by omega) (by simp), hk.frozen (show R < W0.heap.size by omega) (by simp; omega)]
        exact HRf.out q
      have r0 := hRc3 0 _ rfl
      have r1 := hRc3 1 _ rfl
      have r2 := hRc3 2 _ rfl
      have r3 := hRc3 3 _ rfl
      have f0 := hRf3 0
      have f1 := hRf3 1
      have f2 := hRf3 2
      have f3 := hRf3 3
      have hmS : MarksD w3 S L (dig L p.1) := hm2.keeps hk3 hlt2 (by simp; omega)
      have hbk : ∀ j, j < n1 + 1 → bk j < wr.heap.size := fun j hj => ((HLs.out j hj).2.2 (by omega)).2.2.2.1
      have hbV : ∀ j, j < n1 + 1 → V + 1 < bk j := fun j hj => ((HLs.out j hj).2.2 (by omega)).2.2.1
      have HMS := hid_intro hmS
      have HBk := hid_intro hbk
      have HBV := hid_intro hbV
      have HSS := hid_intro hS
      clear hRc3 hRf3 hmS hbk hbV hm2 s0 s1 s2 hu2 hf2 hw3 hS hds d2 fd2 hd1 hd1'
      go_wp2_with fail
      obtain ⟨y0, y1, y2, y3⟩ := box_four r0 r1 r2 r3 (.bool false) (.int .i64 0) (.slice (some ⟨S, 0, none⟩) L L) (.slice (some ⟨V, 0, none⟩) (n1 + 1) (n1 + 1))
      have hk4 := boxed4_keeps w3 R (.bool false) (.int .i64 0) (.slice (some ⟨S, 0, none⟩) L L) (.slice (some ⟨V, 0, none⟩) (n1 + 1) (n1 + 1))
      unfold boxed4 at y0 y1 y2 y3 hk4
      refine bodyPost_ret (v := .agg #[.bool false, .int .i64 0, .slice (some ⟨S, 0, none⟩) L L, .slice (some ⟨V, 0, none⟩) (n1 + 1) (n1 + 1)]) (by simp [results, Tryz.results41, go_sem, y0, y1, y2, y3]; try rfl) rfl ?_
      have hSS := HSS.out
      have hR0 := HR0.out
      have hbk := HBk.out
      have hbV := HBV.out
      have hsz2 : wr.heap.size ≤ w2.heap.size := hk2'.size
      have hsz3 : w2.heap.size ≤ w3.heap.size := hk3.size
      have hkR : Keeps [] w w3 := (((hkw.trans hk2').mono (S' := [D]) (by simp)).trans hk3).strike (fun i hi hlt => by simp at hi; omega)
      refine ⟨⟨S, V, bk, rfl, HMS.out.keeps hk4 (by omega) (by simp; omega), ?_, by omega, by omega, fun j hj => by rw [hSS]; exact hbk j hj, ?_⟩, ((hkR.mono (S' := [R]) (by simp)).trans hk4).strike (fun i hi hlt => by simp at hi; omega)⟩
      · refine ((HLs.out.keeps hk2' (by omega) (by simp)).keeps hk3 (by omega) ?_).keeps hk4 (by omega) ?_
        · intro x hx _
          simp at hx
          subst hx
          have hdv := HDV.out
          refine ⟨by omega, fun j hj he => ?_⟩
          have := hbV j hj
          omega
        · intro x hx _
          simp at hx
          subst hx
          refine ⟨by omega, fun j hj he => ?_⟩
          have := hbV j hj
          omega
      · have := hk4.size
        omega

end Go.Proofs.YtmgjegokkbghlaaGreatDoor
