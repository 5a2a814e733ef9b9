/- The walk of least. -/
import Derived.Test.YtmgjegokkbghlaaGreatDoorExis
namespace Go.Proofs.YtmgjegokkbghlaaGreatDoor
open Go.RowKit Go.Maps Bdd
attribute [local go_sem ↓] Go.wp_at_zero Go.wp_at_succ

/-- the weights of what is true -/
def wsum (Wt : Nat → Nat) (a : Int → Bool) : Nat → Nat
  | 0 => 0
  | k + 1 => wsum Wt a k + if a (k : Int) then Wt k else 0
theorem wsum_same (Wt : Nat → Nat) {a b : Int → Bool} : ∀ L : Nat, (∀ i : Nat, i < L → a i = b i) → wsum Wt a L = wsum Wt b L
  | 0, _ => rfl
  | k + 1, h => by
    simp only [wsum]
    rw [wsum_same Wt k (fun i hi => h i (by omega)), h k (by omega)]
theorem wsum_true (Wt : Nat → Nat) (a : Int → Bool) (k : Nat) (ha : a k = false) : ∀ L : Nat, k < L → wsum Wt (setAt a k true) L = wsum Wt a L + Wt k
  | 0, h => by omega
  | L + 1, h => by
    simp only [wsum]
    by_cases e : k = L
    · subst e
      rw [wsum_same Wt k (fun i hi => (show setAt a k true i = a i by unfold setAt; rw [if_neg (by omega)])), ha]
      simp [setAt]
    · rw [wsum_true Wt a k ha L (by omega)]
      have : setAt a k true (L : Int) = a L := by unfold setAt; rw [if_neg (by omega)]
      rw [this]; omega
theorem wsum_false (Wt : Nat → Nat) (a : Int → Bool) (k : Nat) (ha : a k = true) : ∀ L : Nat, k < L → wsum Wt (setAt a k false) L + Wt k = wsum Wt a L
  | 0, h => by omega
  | L + 1, h => by
    simp only [wsum]
    by_cases e : k = L
    · subst e
      rw [wsum_same Wt k (fun i hi => (show setAt a k false i = a i by unfold setAt; rw [if_neg (by omega)])), ha]
      simp [setAt]
    · have := wsum_false Wt a k ha L (by omega)
      have h2 : setAt a k false (L : Int) = a L := by unfold setAt; rw [if_neg (by omega)]
      rw [h2]; omega

/-- the least sum of weights of which f is true -/
def LeastIs (Wt : Nat → Nat) (L : Nat) (F : (Int → Bool) → Bool) (v : Nat) : Prop := (∃ a, F a = true ∧ wsum Wt a L = v) ∧ ∀ a, F a = true → v ≤ wsum Wt a L
theorem LeastIs.off {Wt : Nat → Nat} {L : Nat} {N : Tab} {top last : Int} {l g : Int} {v k : Nat} (h : LeastIs Wt L (E N g) v) (hw : Wf N top last) (hg : Ok N l g) (hk : (k : Int) < l) (hkL : k < L) (hW : 1 ≤ Wt k) : ∃ a, a (k : Int) = false ∧ E N g a = true ∧ wsum Wt a L = v := by
  obtain ⟨⟨a, ha, hv⟩, hmin⟩ := h
  cases hak : a (k : Int) with
  | false => exact ⟨a, hak, ha, hv⟩
  | true =>
    have h1 : E N g (setAt a k false) = true := by rw [E_setAt hw hg hk]; exact ha
    have h2 := hmin _ h1
    have h3 := wsum_false Wt a k hak L hkL
    omega
theorem least_lo {Wt : Nat → Nat} {L : Nat} {N : Tab} {last : Int} (hw : Wf N (L : Int) last) {f : Int} {n : Nd} (hn : N f = some n) {k : Nat} (hk : n.lv = (k : Int)) (hW : 1 ≤ Wt k) (h0 : n.lo = 0) {v : Nat} (h : LeastIs Wt L (E N n.hi) v) : LeastIs Wt L (E N f) (Wt k + v) := by
  have hlv := hw.lv f n hn
  have hhi := hw.hi f n hn
  obtain ⟨a, h1, h2, h3⟩ := h.off hw hhi (by omega) (by omega : k < L) hW
  refine ⟨⟨setAt a k true, ?_, ?_⟩, fun b hb => ?_⟩
  · rw [E_node hw hn, if_pos (by rw [hk]; simp [setAt]), E_setAt hw hhi (by omega)]; exact h2
  · rw [wsum_true Wt a k h1 L (by omega)]; omega
  · rw [E_node hw hn, hk] at hb
    cases hbk : b (k : Int) with
    | false => rw [hbk, if_neg (by simp), h0, E_zero hw] at hb; cases hb
    | true =>
      rw [hbk, if_pos rfl] at hb
      have h4 : E N n.hi (setAt b k false) = true := by rw [E_setAt hw hhi (by omega)]; exact hb
      have h5 := h.2 _ h4
      have h6 := wsum_false Wt b k hbk L (by omega)
      omega
theorem least_hi {Wt : Nat → Nat} {L : Nat} {N : Tab} {last : Int} (hw : Wf N (L : Int) last) {f : Int} {n : Nd} (hn : N f = some n) {k : Nat} (hk : n.lv = (k : Int)) (hW : 1 ≤ Wt k) (h0 : n.hi = 0) {v : Nat} (h : LeastIs Wt L (E N n.lo) v) : LeastIs Wt L (E N f) v := by
  have hlv := hw.lv f n hn
  have hlo := hw.lo f n hn
  obtain ⟨a, h1, h2, h3⟩ := h.off hw hlo (by omega) (by omega : k < L) hW
  refine ⟨⟨a, ?_, h3⟩, fun b hb => ?_⟩
  · rw [E_node hw hn, hk, h1, if_neg (by simp)]; exact h2
  · rw [E_node hw hn, hk] at hb
    cases hbk : b (k : Int) with
    | true => rw [hbk, if_pos rfl, h0, E_zero hw] at hb; cases hb
    | false => rw [hbk, if_neg (by simp)] at hb; exact h.2 _ hb
theorem least_both {Wt : Nat → Nat} {L : Nat} {N : Tab} {last : Int} (hw : Wf N (L : Int) last) {f : Int} {n : Nd} (hn : N f = some n) {k : Nat} (hk : n.lv = (k : Int)) (hW : 1 ≤ Wt k) {u v : Nat} (hu : LeastIs Wt L (E N n.lo) u) (h : LeastIs Wt L (E N n.hi) v) : LeastIs Wt L (E N f) (min u (Wt k + v)) := by
  have hlv := hw.lv f n hn
  have hlo := hw.lo f n hn
  have hhi := hw.hi f n hn
  obtain ⟨a, h1, h2, h3⟩ := hu.off hw hlo (by omega) (by omega : k < L) hW
  obtain ⟨c, g1, g2, g3⟩ := h.off hw hhi (by omega) (by omega : k < L) hW
  refine ⟨?_, fun b hb => ?_⟩
  · by_cases hle : u ≤ Wt k + v
    · rw [Nat.min_eq_left hle]
      refine ⟨a, ?_, h3⟩
      rw [E_node hw hn, hk, h1, if_neg (by simp)]; exact h2
    · rw [Nat.min_eq_right (by omega)]
      refine ⟨setAt c k true, ?_, ?_⟩
      · rw [E_node hw hn, if_pos (by rw [hk]; simp [setAt]), E_setAt hw hhi (by omega)]; exact g2
      · rw [wsum_true Wt c k g1 L (by omega)]; omega
  · rw [E_node hw hn, hk] at hb
    cases hbk : b (k : Int) with
    | false =>
      rw [hbk, if_neg (by simp)] at hb
      exact Nat.le_trans (Nat.min_le_left _ _) (hu.2 _ hb)
    | true =>
      rw [hbk, if_pos rfl] at hb
      have h4 : E N n.hi (setAt b k false) = true := by rw [E_setAt hw hhi (by omega)]; exact hb
      have h5 := h.2 _ h4
      have h6 := wsum_false Wt b k hbk L (by omega)
      exact Nat.le_trans (Nat.min_le_right _ _) (by omega)

/-- a list of weights in memory -/
def Wts (w : World) (vb vo L : Nat) (Wt : Nat → Nat) : Prop := ∀ i : Nat, i < L → w.cell? ⟨vb, vo + i, none⟩ = some (.int .i64 (Wt i : Int))
/-- weights as they are -/
def WtOk (Wt : Nat → Nat) (L : Nat) : Prop := (∀ i, i < L → 1 ≤ Wt i) ∧ ∀ a, wsum Wt a L ≤ 255
theorem WtOk.le {Wt : Nat → Nat} {L : Nat} (h : WtOk Wt L) {k : Nat} (hk : k < L) : Wt k ≤ 255 := by
  have h1 := h.2 (setAt (fun _ => false) k true)
  rw [wsum_true Wt (fun _ => false) k rfl L hk] at h1
  omega

/-- what the memo says -/
def LstOk (N : Tab) (Wt : Nat → Nat) (L : Nat) (G : Value → Option Value) : Prop := (∀ f v, G (.int .i64 f) = some v → ∃ x : Nat, v = .int .i64 (x : Int) ∧ x ≤ 255 ∧ LeastIs Wt L (E N f) x) ∧ (G (.int .i64 1)).isSome = true
theorem LstOk.set {N : Tab} {Wt : Nat → Nat} {L : Nat} {G : Value → Option Value} (h : LstOk N Wt L G) (f : Int) {x : Nat} (hx : x ≤ 255) (hl : LeastIs Wt L (E N f) x) : LstOk N Wt L (setG G (.int .i64 f) (some (.int .i64 (x : Int)))) := by
  refine ⟨fun g v hv => ?_, ?_⟩
  · by_cases e : g = f
    · subst e; rw [setG_same] at hv; cases hv; exact ⟨x, rfl, hx, hl⟩
    · rw [setG_other _ _ (by simp [e])] at hv; exact h.1 g v hv
  · by_cases e : (1 : Int) = f
    · subst e; rw [setG_same]; rfl
    · rw [setG_other _ _ (by simp [e])]; exact h.2
theorem LeastIs.le {Wt : Nat → Nat} {L : Nat} {F : (Int → Bool) → Bool} {x : Nat} (h : LeastIs Wt L F x) (hW : WtOk Wt L) : x ≤ 255 := by
  obtain ⟨⟨a, _, rfl⟩, _⟩ := h
  exact hW.2 a

def LeastSaid (L vb vo cap : Nat) (Wt : Nat → Nat) (k : Nat) : Prop := ∀ (w : World) (t bn bm bd sz m : Nat) (N : Tab) (last : Int) (G : Value → Option Value) (l f : Int),
  TabR w t bn bm sz N (L : Int) last → MapIs w Tryz.prog 88 bd m G → LstOk N Wt L G → Wts w vb vo L Wt → vb ≠ bd → bd ≠ bn → bd ≠ bm → (L : Int) - l ≤ k → Ok N l f → f ≠ 0 → m + pw k < maxLen →
  Calls Tryz.prog 182 #[.pointer (some ⟨t, 0, none⟩), .int .i64 f, .slice (some ⟨vb, vo, none⟩) L cap, .map (some bd)] w fun e w' => ∃ x m' G', e = .returned (.int .i64 ((x : Nat) : Int)) ∧ LeastIs Wt L (E N f) x ∧ MapIs w' Tryz.prog 88 bd m' G' ∧ LstOk N Wt L G' ∧ m' + 1 ≤ m + pw k ∧ Keeps [bd] w w'

set_option maxRecDepth 100000 in
set_option maxHeartbeats 400000 in
theorem least_hit {w : World} {t bd m : Nat} {f : Int} {v ws : Value} {G : Value → Option Value} (hm : MapIs w Tryz.prog 88 bd m G) (hf : Fits f) (hG : G (.int .i64 f) = some v) :
    Calls Tryz.prog 182 #[.pointer (some ⟨t, 0, none⟩), .int .i64 f, ws, .map (some bd)] w fun e w' => e = .returned v ∧ w = w' := by
  have hrun := (hm.look lawFn Tryz.underlying165 (zeroInt _) (keyFn hf)).1
  rw [hG] at hrun
  simp only [Option.getD_some, Option.isSome_some] at hrun
  clear hG
  go_enter Tryz.func182, Tryz.ntmps182
  go_wp2_with fail
  go_ret
  exact ⟨rfl, rfl⟩

/-- the box of a node, a weight, and all that was there but the memo -/
abbrev BoxL (W : World) (bd B : Nat) (x y z : Int) (vb off : Nat) (wt : Nat) (w' : World) : Prop := w'.cell? ⟨B, 0, none⟩ = some (.int .i64 x) ∧ w'.cell? ⟨B, 1, none⟩ = some (.int .i64 y) ∧ w'.cell? ⟨B, 2, none⟩ = some (.int .i64 z) ∧ w'.cell? ⟨vb, off, none⟩ = some (.int .i64 (wt : Int)) ∧ Keeps [bd] W w'
theorem boxL_keep {W a b : World} {bd B vb off wt : Nat} {x y z : Int} (hne : B ≠ bd) (hvb : vb ≠ bd) (hk : Keeps [bd] a b) (hS : BoxL W bd B x y z vb off wt a) : BoxL W bd B x y z vb off wt b :=
  ⟨hk.cell hS.1 (by simp [hne]), hk.cell hS.2.1 (by simp [hne]), hk.cell hS.2.2.1 (by simp [hne]), hk.cell hS.2.2.2.1 (by simp [hvb]), hS.2.2.2.2.trans hk⟩

set_option maxRecDepth 100000 in
set_option maxHeartbeats 2000000 in
theorem least_rec {L vb vo cap : Nat} {Wt : Nat → Nat} (hWt : WtOk Wt L) (k : Nat) (IH : LeastSaid L vb vo cap Wt k) {w : World} {t bn bm bd sz m : Nat} {N : Tab} {last : Int} {G : Value → Option Value} {f : Int} {nd : Nd} (hT : TabR w t bn bm sz N (L : Int) last) (hm : MapIs w Tryz.prog 88 bd m G) (hok : LstOk N Wt L G) (hw : Wts w vb vo L Wt) (hvb : vb ≠ bd) (h1 : bd ≠ bn) (h2 : bd ≠ bm) (hN : N f = some nd)
    (hk : (L : Int) - nd.lv ≤ (k + 1 : Nat)) (hn : m + pw (k + 1) < maxLen) (hG : G (.int .i64 f) = none) :
    Calls Tryz.prog 182 #[.pointer (some ⟨t, 0, none⟩), .int .i64 f, .slice (some ⟨vb, vo, none⟩) L cap, .map (some bd)] w fun e w' => ∃ x m' G', e = .returned (.int .i64 ((x : Nat) : Int)) ∧ LeastIs Wt L (E N f) x ∧ MapIs w' Tryz.prog 88 bd m' G' ∧ LstOk N Wt L G' ∧ m' + 1 ≤ m + pw (k + 1) ∧ Keeps [bd] w w' := by
  have hpp : pw (k + 1) = 2 * pw k := rfl
  rw [hpp] at hn ⊢
  clear hpp
  have hp1 := pw_pos k
  have hf : Fits f := hT.fits (ok_node hN)
  have c1 := hT.c1
  have hrun := (hm.look lawFn Tryz.underlying165 (zeroInt _) (keyFn hf)).1
  rw [hG] at hrun
  simp only [Option.getD_none, Option.isSome_none] at hrun
  have hrun2 := hT.run hN
  have hlv := hT.wf.lv f nd hN
  have hL8 := hT.wf.tops
  have hlo := hT.wf.lo f nd hN
  have hhi := hT.wf.hi f nd hN
  have hnlh := hT.wf.ne f nd hN
  obtain ⟨j, hj⟩ := Int.eq_ofNat_of_zero_le hlv.1
  have hjL : j < L := by omega
  have hlv0 := hlv.1
  have hlv1 := hlv.2
  have hwj := hWt.1 j hjL
  have hwj2 := hWt.le hjL
  have hcw : w.cell? ⟨vb, vo + nd.lv.toNat, none⟩ = some (.int .i64 (Wt j : Int)) := by rw [hj]; exact hw j hjL
  have HGn : Hid (G (.int .i64 f) = none) := hG
  have HN : Hid (N f = some nd) := hN
  have HJ : Hid (nd.lv = (j : Int)) := hj
  have lb : bd < w.heap.size := hm.lt
  have l1 : t < w.heap.size := cell_lt (p := ⟨t, 0, none⟩) hT.c0
  have lvb : vb < w.heap.size := cell_lt (p := ⟨vb, vo + nd.lv.toNat, none⟩) hcw
  have hbt : t ≠ bd := hm.ne_cell hT.c0
  clear hG hN hj
  obtain ⟨W, hW⟩ : ∃ W, W = w.alloc (.cells #[Value.int .i64 nd.lv, Value.int .i64 nd.lo, Value.int .i64 nd.hi] 157) := ⟨_, rfl⟩
  have hkW : Keeps [] w W := by rw [hW]; exact (Keeps.refl _ _).alloc _
  have e0 : W.cell? ⟨w.heap.size, 0, none⟩ = some (.int .i64 nd.lv) := by rw [hW]; simp
  have e1 : W.cell? ⟨w.heap.size, 1, none⟩ = some (.int .i64 nd.lo) := by rw [hW]; simp
  have e2 : W.cell? ⟨w.heap.size, 2, none⟩ = some (.int .i64 nd.hi) := by rw [hW]; simp
  have e3 := hkW.cell hcw (by simp)
  have s0 : BoxL W bd w.heap.size nd.lv nd.lo nd.hi vb (vo + nd.lv.toNat) (Wt j) W.drew := ⟨e0, e1, e2, e3, (Keeps.refl _ _).drew⟩
  have HW : Hid (W = w.alloc (.cells #[Value.int .i64 nd.lv, Value.int .i64 nd.lo, Value.int .i64 nd.hi] 157)) := hW
  have hB : w.heap.size ≠ bd := by omega
  have hq1 : t ∉ [bd] := by simp [hbt]
  have hq2 : bn ∉ [bd] := by simp; exact fun e => h1 e.symm
  have hq3 : bm ∉ [bd] := by simp; exact fun e => h2 e.symm
  have hTW := hT.grow hkW
  have hmW : MapIs W Tryz.prog 88 bd m G := hm.keeps hkW (by simp)
  have hwW : Wts W vb vo L Wt := fun i hi => hkW.cell (hw i hi) (by simp)
  have hTWd := hT.grow hkW.drew
  have hmWd := hmW.drew
  have hwWd : Wts W.drew vb vo L Wt := fun i hi => hkW.drew.cell (hw i hi) (by simp)
  clear hW
  by_cases hlo0 : nd.lo = 0
  · have hhi0 : nd.hi ≠ 0 := fun e => hnlh (by rw [hlo0, e])
    have HLO : Hid (nd.lo = 0) := hlo0
    rw [hlo0] at hrun2 e1 s0 HW
    go_enter Tryz.func182, Tryz.ntmps182
    go_wp2_with fail
    rw [← HW.out]
    clear hrun hrun2
    go_region_held3 (fun w' => w'.cell? ⟨w.heap.size, 0, none⟩ = some (.int .i64 nd.lv) ∧ w'.cell? ⟨w.heap.size, 1, none⟩ = some (.int .i64 0) ∧ w'.cell? ⟨w.heap.size, 2, none⟩ = some (.int .i64 nd.hi) ∧ w'.cell? ⟨vb, vo + nd.lv.toNat, none⟩ = some (.int .i64 (Wt j : Int)) ∧ Keeps [bd] W w')
      (first | exact s0 | exact boxL_keep hB hvb ((Keeps.refl [bd] _).grown (hg3 _) (by simp)) (by assumption) | exact boxL_keep hB hvb (by assumption) (by assumption) | assumption)
      (first
        | (go_at_call 182; refine (IH W.drew t bn bm bd sz m N last G (nd.lv + 1) nd.hi hTWd hmWd hok hwWd hvb h1 h2 ?z1 hhi hhi0 ?z2).mono ?_; (case z1 => omega); (case z2 => omega); rintro e w1 ⟨x, m1, G1, rfl, hx, hm1, hok1, hn1, hk1⟩; obtain ⟨W3, hr3, hm3, hg3⟩ := hm1.updates lawFn Tryz.underlying165 (by omega) (keyFn hf)))
    obtain ⟨q, hq⟩ : ∃ q : Nat, q = Wt j + x := ⟨_, rfl⟩
    have HQ : Hid (q = Wt j + x) := hq
    have hval : IntKind.i64.wrap ((Wt j : Int) + (x : Int)) = (q : Int) := by
      have hx2 := hx.le hWt
      rw [IntWalk.i64_in _ ⟨by omega, by omega⟩]
      omega
    clear hq
    have hkW2 := (by assumption : BoxL W bd w.heap.size nd.lv 0 nd.hi vb (vo + nd.lv.toNat) (Wt j) (W3 (Value.int IntKind.i64 (IntKind.i64.wrap ((Wt j : Int) + (x : Int)))))).2.2.2.2
    rw [hval] at hkW2 ⊢
    have hm4 := hm3 (.int .i64 (q : Int))
    have hr4 := (hm4.look lawFn Tryz.underlying165 (zeroInt _) (keyFn hf)).2
    rw [setG_same] at hr4
    simp only [Option.getD_some] at hr4
    clear hr3 hval
    go_wp2_with fail
    go_ret
    have hL : LeastIs Wt L (E N f) q := by rw [HQ.out]; exact least_lo hT.wf HN.out HJ.out hwj HLO.out hx
    refine ⟨q, _, _, rfl, hL, hm4, hok1.set f (hL.le hWt) hL, ?_, (hkW.mono (by simp)).trans hkW2⟩
    split <;> omega
  · have hlo0' : (nd.lo == 0) = false := by simp [hlo0]
    by_cases hhi0 : nd.hi = 0
    · have HHI : Hid (nd.hi = 0) := hhi0
      have HLO : Hid (nd.lo ≠ 0) := hlo0
      rw [hhi0] at hrun2 e2 s0 HW
      clear hlo0
      go_enter Tryz.func182, Tryz.ntmps182
      go_wp2_with fail
      rw [← HW.out]
      refine (IH W t bn bm bd sz m N last G (nd.lv + 1) nd.lo hTW hmW hok hwW hvb h1 h2 (by omega) hlo HLO.out (by omega)).mono ?_
      rintro e w1 ⟨x, m1, G1, rfl, hx, hm1, hok1, hn1, hk1⟩
      obtain ⟨W3, hr3, hm3, hg3⟩ := hm1.updates lawFn Tryz.underlying165 (by omega) (keyFn hf)
      have hkW2 : Keeps [bd] W (W3 (.int .i64 (x : Int))) := hk1.grown (hg3 _) (by simp)
      have hm4 := hm3 (.int .i64 (x : Int))
      have hr4 := (hm4.look lawFn Tryz.underlying165 (zeroInt _) (keyFn hf)).2
      rw [setG_same] at hr4
      simp only [Option.getD_some] at hr4
      clear hrun hrun2
      go_wp2_with fail
      go_ret
      have hL : LeastIs Wt L (E N f) x := least_hi hT.wf HN.out HJ.out hwj HHI.out hx
      refine ⟨x, _, _, rfl, hL, hm4, hok1.set f (hL.le hWt) hL, ?_, (hkW.mono (by simp)).trans hkW2⟩
      split <;> omega
    · have hhi0' : (nd.hi == 0) = false := by simp [hhi0]
      have HLO : Hid (nd.lo ≠ 0) := hlo0
      have HHI : Hid (nd.hi ≠ 0) := hhi0
      clear hlo0 hhi0
      go_enter Tryz.func182, Tryz.ntmps182
      go_wp2_with fail
      rw [← HW.out]
      clear hrun hrun2
      go_region_held3 (fun w' => w'.cell? ⟨w.heap.size, 0, none⟩ = some (.int .i64 nd.lv) ∧ w'.cell? ⟨w.heap.size, 1, none⟩ = some (.int .i64 nd.lo) ∧ w'.cell? ⟨w.heap.size, 2, none⟩ = some (.int .i64 nd.hi) ∧ w'.cell? ⟨vb, vo + nd.lv.toNat, none⟩ = some (.int .i64 (Wt j : Int)) ∧ Keeps [bd] W w')
        (first | exact s0 | exact boxL_keep hB hvb ((Keeps.refl [bd] _).grown (hg3 _) (by simp)) (by assumption) | exact boxL_keep hB hvb (by assumption) (by assumption) | assumption)
        (first
          | (go_at_call_of 182 (Value.int IntKind.i64 nd.lo); refine (IH W.drew t bn bm bd sz m N last G (nd.lv + 1) nd.lo hTWd hmWd hok hwWd hvb h1 h2 ?z1 hlo HLO.out ?z2).mono ?_; (case z1 => omega); (case z2 => omega); rintro e w1 ⟨y, m1, G1, rfl, hy, hm1, hok1, hn1, hk1⟩)
          | (go_at_call_of 182 (Value.int IntKind.i64 nd.hi); refine (IH w1 t bn bm bd sz m1 N last G1 (nd.lv + 1) nd.hi ?z0 hm1 hok1 ?z3 hvb h1 h2 ?z1 hhi HHI.out ?z2).mono ?_; (case z0 => exact hTWd.keeps hk1 hq1 hq2 hq3); (case z1 => omega); (case z2 => omega); (case z3 => exact fun i hi => hk1.cell (hwWd i hi) (by simp [hvb])); rintro e w2 ⟨x, m2, G2, rfl, hx, hm2, hok2, hn2, hk2⟩; obtain ⟨W3, hr3, hm3, hg3⟩ := hm2.updates lawFn Tryz.underlying165 (by omega) (keyFn hf)))
      obtain ⟨q, hq⟩ : ∃ q : Nat, q = min y (Wt j + x) := ⟨_, rfl⟩
      have HQ : Hid (q = min y (Wt j + x)) := hq
      have hval : (if IntKind.i64.wrap ((Wt j : Int) + (x : Int)) < (y : Int) then IntKind.i64.wrap ((Wt j : Int) + (x : Int)) else (y : Int)) = (q : Int) := by
        have hx2 := hx.le hWt
        have hy2 := hy.le hWt
        rw [hq, IntWalk.i64_in _ ⟨by omega, by omega⟩]
        split <;> omega
      clear hq
      have hkW2 := (by assumption : BoxL W bd w.heap.size nd.lv nd.lo nd.hi vb (vo + nd.lv.toNat) (Wt j) (W3 (Value.int IntKind.i64 (if IntKind.i64.wrap ((Wt j : Int) + (x : Int)) < (y : Int) then IntKind.i64.wrap ((Wt j : Int) + (x : Int)) else (y : Int))))).2.2.2.2
      rw [hval] at hkW2 ⊢
      have hm4 := hm3 (.int .i64 (q : Int))
      have hr4 := (hm4.look lawFn Tryz.underlying165 (zeroInt _) (keyFn hf)).2
      rw [setG_same] at hr4
      simp only [Option.getD_some] at hr4
      clear hr3 hval
      go_wp2_with fail
      go_ret
      have hL : LeastIs Wt L (E N f) q := by rw [HQ.out]; exact least_both hT.wf HN.out HJ.out hwj hy hx
      refine ⟨q, _, _, rfl, hL, hm4, hok2.set f (hL.le hWt) hL, ?_, (hkW.mono (by simp)).trans hkW2⟩
      split <;> omega

theorem least_any {L vb vo cap : Nat} {Wt : Nat → Nat} (hWt : WtOk Wt L) : ∀ k, LeastSaid L vb vo cap Wt k := by
  intro k
  have hit : ∀ (k : Nat) (w : World) (t bn bm bd sz m : Nat) (N : Tab) (last : Int) (G : Value → Option Value) (l f : Int), TabR w t bn bm sz N (L : Int) last → MapIs w Tryz.prog 88 bd m G → LstOk N Wt L G → Ok N l f → (G (.int .i64 f)).isSome = true →
      Calls Tryz.prog 182 #[.pointer (some ⟨t, 0, none⟩), .int .i64 f, .slice (some ⟨vb, vo, none⟩) L cap, .map (some bd)] w fun e w' => ∃ x m' G', e = .returned (.int .i64 ((x : Nat) : Int)) ∧ LeastIs Wt L (E N f) x ∧ MapIs w' Tryz.prog 88 bd m' G' ∧ LstOk N Wt L G' ∧ m' + 1 ≤ m + pw k ∧ Keeps [bd] w w' := by
    intro k w t bn bm bd sz m N last G l f hT hm hok hf hG
    have hpp := pw_pos k
    obtain ⟨v, hv⟩ := Option.isSome_iff_exists.1 hG
    obtain ⟨x, rfl, _, hx⟩ := hok.1 f v hv
    refine (least_hit hm (hT.fits hf) hv).mono ?_
    rintro e w' ⟨rfl, rfl⟩
    exact ⟨x, m, G, rfl, hx, hm, hok, by omega, Keeps.refl _ _⟩
  induction k with
  | zero =>
    intro w t bn bm bd sz m N last G l f hT hm hok hw hvb h1 h2 hk hf hf0 hn
    refine hit 0 w t bn bm bd sz m N last G l f hT hm hok hf ?_
    rcases hf with e | rfl | ⟨nd, hnd, hl⟩
    · exact absurd e hf0
    · exact hok.2
    · have := hT.wf.lv f nd hnd; omega
  | succ k IH =>
    intro w t bn bm bd sz m N last G l f hT hm hok hw hvb h1 h2 hk hf hf0 hn
    cases hG : G (.int .i64 f) with
    | some v => exact hit (k + 1) w t bn bm bd sz m N last G l f hT hm hok hf (by rw [hG]; rfl)
    | none =>
      rcases hf with e | rfl | ⟨nd, hnd, hl⟩
      · exact absurd e hf0
      · have := hok.2; rw [hG] at this; cases this
      · exact least_rec hWt k IH hT hm hok hw hvb h1 h2 hnd (by omega) hn hG

theorem least_one {Wt : Nat → Nat} {L : Nat} {N : Tab} {top last : Int} (hw : Wf N top last) : LeastIs Wt L (E N 1) 0 := by
  refine ⟨⟨fun _ => false, E_one hw _, ?_⟩, fun _ _ => Nat.zero_le _⟩
  have : ∀ k, wsum Wt (fun _ => false) k = 0 := by
    intro k
    induction k with
    | zero => rfl
    | succ k ih => simp [wsum, ih]
  exact this L

set_option maxRecDepth 100000 in
set_option maxHeartbeats 1000000 in
theorem tleast_r {w : World} {t bn bm sz L vb vo cap : Nat} {N : Tab} {last : Int} {Wt : Nat → Nat} (hWt : WtOk Wt L) (hT : TabR w t bn bm sz N (L : Int) last) {f : Int} (hf : Ok N 0 f) (hw : Wts w vb vo L Wt) (hvl : vb < w.heap.size) :
    Calls Tryz.prog 134 #[.pointer (some ⟨t, 0, none⟩), .int .i64 f, .slice (some ⟨vb, vo, none⟩) L cap] w fun e w' => Keeps [] w w' ∧ ((f = 0 ∧ e = .returned (.tuple #[.int .i64 0, .bool false])) ∨ (f ≠ 0 ∧ ∃ x : Nat, LeastIs Wt L (E N f) x ∧ e = .returned (.tuple #[.int .i64 (x : Int), .bool true]))) := by
  by_cases h0 : f = 0
  · subst h0
    go_enter Tryz.func134, Tryz.ntmps134
    go_wp2_with fail
    go_ret2
    exact ⟨Keeps.refl _ _, Or.inl ⟨by first | rfl | trivial, rfl⟩⟩
  · have h0' : (f == 0) = false := by simp [h0]
    have hmm := @run_makeMap Tryz.prog
    have hL8 := hT.wf.tops
    obtain ⟨wa, ha1, ha2, ha3⟩ := (MapIs.made w Tryz.prog 88).update lawFn Tryz.underlying165 (by decide) (keyFn (f := 1) (by unfold Fits; omega)) (.int .i64 0)
    simp only [Option.isSome_none, Bool.false_eq_true, if_false, Nat.zero_add] at ha2
    have H0 : Hid (f ≠ 0) := h0
    clear h0
    go_enter Tryz.func134, Tryz.ntmps134
    go_wp2_with fail
    have hok : LstOk N Wt L (setG (fun _ => none) (.int .i64 1) (some (.int .i64 0))) := by
      refine ⟨fun x v hv => ?_, by rw [setG_same]; rfl⟩
      by_cases e : x = 1
      · subst e; rw [setG_same] at hv; cases hv; exact ⟨0, rfl, by omega, least_one hT.wf⟩
      · rw [setG_other _ _ (by simp [e])] at hv; cases hv
    have hl : t < w.heap.size := cell_lt (p := ⟨t, 0, none⟩) hT.c0
    have l2 := hT.ltn
    have l3 := hT.ltm
    have hk : Keeps [w.heap.size] w wa := ((Keeps.refl [w.heap.size] w).alloc _).grown ha3 (by simp)
    have hp : pw 11 = 2048 := by decide
    have hml : 2050 < maxLen := by decide
    refine (least_any hWt 11 _ t bn bm w.heap.size sz 1 N last _ 0 f (hT.keeps hk (by simp; omega) (by simp; omega) (by simp; omega)) ha2 hok (fun i hi => hk.cell (hw i hi) (by simp; omega)) (by omega) (by omega) (by omega) (by omega) hf H0.out (by rw [hp]; omega)).mono ?_
    rintro e w1 ⟨x, m', G', rfl, hx, _, _, _, hk1⟩
    go_wp2_with fail
    go_ret2
    exact ⟨(hk.trans hk1).strike (by simp), Or.inr ⟨H0.out, x, hx, rfl⟩⟩

theorem tleast_any {w : World} {t bn bm sz L vb vo cap : Nat} {N : Tab} {last : Int} {Wt : Nat → Nat} (hWt : WtOk Wt L) (hT : TabAt w t bn bm sz N (L : Int) last) {f : Int} (hf : Ok N 0 f) (hw : Wts w vb vo L Wt) (hvl : vb < w.heap.size) :
    Calls Tryz.prog 134 #[.pointer (some ⟨t, 0, none⟩), .int .i64 f, .slice (some ⟨vb, vo, none⟩) L cap] w fun e w' => Keeps [] w w' ∧ ((f = 0 ∧ e = .returned (.tuple #[.int .i64 0, .bool false])) ∨ (f ≠ 0 ∧ ∃ x : Nat, LeastIs Wt L (E N f) x ∧ e = .returned (.tuple #[.int .i64 (x : Int), .bool true]))) := tleast_r hWt hT.r hf hw hvl

end Go.Proofs.YtmgjegokkbghlaaGreatDoor
