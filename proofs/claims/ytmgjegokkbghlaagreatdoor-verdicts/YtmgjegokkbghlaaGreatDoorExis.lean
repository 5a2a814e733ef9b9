/- The walk of exists. -/
import Derived.Test.YtmgjegokkbghlaaGreatDoorRestr
import Derived.Test.YtmgjegokkbghlaaGreatDoorCount
namespace Go.Proofs.YtmgjegokkbghlaaGreatDoor
open Go.RowKit Go.Maps Bdd
attribute [local go_sem ↓] Go.wp_at_zero Go.wp_at_succ

/-- true with some values of what is free -/
def ExP (fr : Int → Bool) (F : (Int → Bool) → Bool) (a : Int → Bool) : Prop := ∃ b : Int → Bool, (∀ i, fr i = false → b i = a i) ∧ F b = true
theorem exP_free {N : Tab} {top last : Int} (h : Wf N top last) {f : Int} {n : Nd} (hn : N f = some n) {fr : Int → Bool} (hfr : fr n.lv = true) (a : Int → Bool) : ExP fr (E N f) a ↔ ExP fr (E N n.lo) a ∨ ExP fr (E N n.hi) a := by
  have key : ∀ (v : Bool) (b : Int → Bool), (∀ i, fr i = false → b i = a i) → ∀ i, fr i = false → setAt b n.lv v i = a i := by
    intro v b hb i hi
    unfold setAt
    by_cases e : i = n.lv
    · subst e; rw [hfr] at hi; cases hi
    · rw [if_neg e]; exact hb i hi
  constructor
  · rintro ⟨b, hb, hE⟩
    rw [E_node h hn] at hE
    cases hl : b n.lv with
    | true => rw [hl, if_pos rfl] at hE; exact Or.inr ⟨b, hb, hE⟩
    | false => rw [hl, if_neg (by simp)] at hE; exact Or.inl ⟨b, hb, hE⟩
  · rintro (⟨b, hb, hE⟩ | ⟨b, hb, hE⟩)
    · refine ⟨setAt b n.lv false, key _ b hb, ?_⟩
      rw [E_node h hn, if_neg (by simp [setAt]), E_setAt h (h.lo f n hn) (by omega)]; exact hE
    · refine ⟨setAt b n.lv true, key _ b hb, ?_⟩
      rw [E_node h hn, if_pos (by simp [setAt]), E_setAt h (h.hi f n hn) (by omega)]; exact hE
theorem exP_bound {N : Tab} {top last : Int} (h : Wf N top last) {f : Int} {n : Nd} (hn : N f = some n) {fr : Int → Bool} (hfr : fr n.lv = false) (a : Int → Bool) : ExP fr (E N f) a ↔ if a n.lv then ExP fr (E N n.hi) a else ExP fr (E N n.lo) a := by
  cases hl : a n.lv with
  | true =>
    simp only [if_true]
    constructor
    · rintro ⟨b, hb, hE⟩
      have := hb n.lv hfr
      rw [E_node h hn, this, hl, if_pos rfl] at hE
      exact ⟨b, hb, hE⟩
    · rintro ⟨b, hb, hE⟩
      have := hb n.lv hfr
      exact ⟨b, hb, by rw [E_node h hn, this, hl, if_pos rfl]; exact hE⟩
  | false =>
    simp only [Bool.false_eq_true, if_false]
    constructor
    · rintro ⟨b, hb, hE⟩
      have := hb n.lv hfr
      rw [E_node h hn, this, hl, if_neg (by simp)] at hE
      exact ⟨b, hb, hE⟩
    · rintro ⟨b, hb, hE⟩
      have := hb n.lv hfr
      exact ⟨b, hb, by rw [E_node h hn, this, hl, if_neg (by simp)]; exact hE⟩
theorem exP_congr {F F' : (Int → Bool) → Bool} (h : ∀ a, F a = F' a) (fr : Int → Bool) (a : Int → Bool) : ExP fr F a ↔ ExP fr F' a :=
  ⟨fun ⟨b, hb, hE⟩ => ⟨b, hb, by rw [← h]; exact hE⟩, fun ⟨b, hb, hE⟩ => ⟨b, hb, by rw [h]; exact hE⟩⟩

/-- what the memo says -/
def ExOk (N : Tab) (fr : Int → Bool) (G : Value → Option Value) : Prop :=
  (∀ f x, G (.int .i64 f) = some x → ∃ r, x = .int .i64 r ∧ Ok N 0 f ∧ Ok N 0 r ∧ (∀ l, Ok N l f → Ok N l r) ∧ ∀ a, E N r a = true ↔ ExP fr (E N f) a) ∧ (G (.int .i64 0)).isSome = true ∧ (G (.int .i64 1)).isSome = true
theorem ExOk.sub {N N' : Tab} {top last last' : Int} {fr : Int → Bool} {G : Value → Option Value} (h : ExOk N fr G) (hw : Wf N top last) (hw' : Wf N' top last') (hs : Sub N N') : ExOk N' fr G := by
  refine ⟨fun f x hx => ?_, h.2⟩
  obtain ⟨r, rfl, h1, h2, h3, h4⟩ := h.1 f x hx
  refine ⟨r, rfl, h1.sub hs, h2.sub hs, fun l a => (h3 l (ok_back hw' hs h1 a)).sub hs, fun a => ?_⟩
  rw [E_sub hw hw' hs h2, h4]
  exact exP_congr (fun b => (E_sub hw hw' hs h1 b).symm) fr a
theorem ExOk.set {N : Tab} {fr : Int → Bool} {G : Value → Option Value} (h : ExOk N fr G) {f r : Int} (h1 : Ok N 0 f) (h2 : Ok N 0 r) (h3 : ∀ l, Ok N l f → Ok N l r) (h4 : ∀ a, E N r a = true ↔ ExP fr (E N f) a) :
    ExOk N fr (setG G (.int .i64 f) (some (.int .i64 r))) := by
  have key : ∀ x, (G (.int .i64 x)).isSome = true → (setG G (.int .i64 f) (some (.int .i64 r)) (.int .i64 x)).isSome = true := by
    intro x hx
    by_cases e : x = f
    · subst e; rw [setG_same]; rfl
    · rw [setG_other _ _ (by simp [e])]; exact hx
  refine ⟨fun f' x hx => ?_, key 0 h.2.1, key 1 h.2.2⟩
  by_cases e : f' = f
  · subst e
    rw [setG_same] at hx
    cases hx
    exact ⟨r, rfl, h1, h2, h3, h4⟩
  · rw [setG_other _ _ (by simp [e])] at hx
    exact h.1 f' x hx

set_option maxRecDepth 100000 in
set_option maxHeartbeats 400000 in
theorem tchoose_lv {w : World} {t bn bm sz : Nat} {N : Tab} {top last : Int} (hT : TabAt w t bn bm sz N top last) {l f g h : Int} (hl0 : 0 ≤ l) (hf : Ok N l f) (hg : Ok N l g) (hh : Ok N l h) (hb1 : last + 2048 ≤ 4611686018427387904) (hb2 : sz + 2048 < maxLen) :
    Calls Tryz.prog 38 #[.pointer (some ⟨t, 0, none⟩), .int .i64 f, .int .i64 g, .int .i64 h] w fun e w' => ∃ r N' last' sz', e = .returned (.int .i64 r) ∧ TabAt w' t bn bm sz' N' top last' ∧ Sub N N' ∧ Ok N' l r ∧
    (∀ a, E N' r a = if E N f a then E N g a else E N h a) ∧ last ≤ last' ∧ last' ≤ last + 2048 ∧ sz' ≤ sz + 2048 ∧ Keeps [t, bn, bm] w w' := by
  have hmm := @run_makeMap Tryz.prog
  have hk : Keeps [] w (w.alloc (.map #[] 0)) := (Keeps.refl _ _).alloc _
  have hl : t < w.heap.size := cell_lt (p := ⟨t, 0, none⟩) hT.c0
  have l2 := hT.names.lt
  have l3 := hT.nodes.lt
  have hp : pw 11 = 2048 := by decide
  have ht8 := hT.wf.tops
  have hml : 2048 < maxLen := by decide
  go_enter Tryz.func38, Tryz.ntmps38
  go_wp2_with fail
  refine (ChooseSaid.at (choose_any 11) l f g h (hT.grow hk) (MapIs.made w Tryz.prog 160) (DoneOk.none N) (by omega) (by omega) (by omega) (by omega) hf hg hh (by rw [hp]; omega) (by rw [hp]; omega) (by rw [hp]; omega)).mono ?_
  rintro e w1 ⟨r, N', last', sz', n', G', rfl, h1, h2, h3, h4, h5, h6, h7, h8, h9, h10, h11⟩
  rw [hp] at h8 h9
  go_wp2_with fail
  go_ret
  refine ⟨r, N', last', sz', rfl, h1, h4, h5, h6, h7, by omega, by omega, ?_⟩
  exact ((hk.mono (by simp)).trans h11).strike (by simp)

set_option maxRecDepth 100000 in
set_option maxHeartbeats 400000 in
theorem exists_hit {w : World} {t bd m : Nat} {f : Int} {v fr : Value} {G : Value → Option Value} (hm : MapIs w Tryz.prog 88 bd m G) (hf : Fits f) (hG : G (.int .i64 f) = some v) :
    Calls Tryz.prog 183 #[.pointer (some ⟨t, 0, none⟩), .int .i64 f, fr, .map (some bd)] w fun e w' => e = .returned v ∧ w = w' := by
  have hrun := (hm.look lawFn Tryz.underlying246 (zero69 _) (keyFn hf)).1
  rw [hG] at hrun
  simp only [Option.getD_some, Option.isSome_some] at hrun
  clear hG
  go_enter Tryz.func183, Tryz.ntmps183
  go_wp2_with fail
  go_ret
  exact ⟨rfl, rfl⟩

def ExistsSaid (L vb vo cap : Nat) (fr : Int → Bool) (k : Nat) : Prop := ∀ (w : World) (t bn bm bd sz m : Nat) (N : Tab) (last : Int) (G : Value → Option Value) (l f : Int),
  TabAt w t bn bm sz N (L : Int) last → MapIs w Tryz.prog 88 bd m G → ExOk N fr G → Truths w vb vo L fr → vb ∉ [t, bn, bm, bd] → bd ≠ bn → bd ≠ bm → 0 ≤ l → (L : Int) - l ≤ k → Ok N l f → last + 2048 * (pw k : Int) ≤ 4611686018427387904 → sz + 2048 * pw k < maxLen → m + pw k < maxLen →
  Calls Tryz.prog 183 #[.pointer (some ⟨t, 0, none⟩), .int .i64 f, .slice (some ⟨vb, vo, none⟩) L cap, .map (some bd)] w fun e w' => ∃ r N' last' sz' m' G', e = .returned (.int .i64 r) ∧ TabAt w' t bn bm sz' N' (L : Int) last' ∧ MapIs w' Tryz.prog 88 bd m' G' ∧ ExOk N' fr G' ∧ Sub N N' ∧ Ok N' l r ∧
    (∀ a, E N' r a = true ↔ ExP fr (E N f) a) ∧ last ≤ last' ∧ last' + 2048 ≤ last + 2048 * (pw k : Int) ∧ sz' + 2048 ≤ sz + 2048 * pw k ∧ m' + 1 ≤ m + pw k ∧ Keeps [t, bn, bm, bd] w w'

/-- the box of a node, and all that was there but the table and the memo -/
abbrev BoxS (W : World) (S : List Nat) (B : Nat) (x y z : Int) (w' : World) : Prop := w'.cell? ⟨B, 0, none⟩ = some (.int .i64 x) ∧ w'.cell? ⟨B, 1, none⟩ = some (.int .i64 y) ∧ w'.cell? ⟨B, 2, none⟩ = some (.int .i64 z) ∧ Keeps S W w'
theorem boxS_keep {W a b : World} {S : List Nat} {B : Nat} {x y z : Int} (hB : B ∉ S) (hk : Keeps S a b) (hS : BoxS W S B x y z a) : BoxS W S B x y z b :=
  ⟨hk.cell hS.1 hB, hk.cell hS.2.1 hB, hk.cell hS.2.2.1 hB, hS.2.2.2.trans hk⟩

theorem exists_end {L : Nat} {fr : Int → Bool} {k : Nat} {w w2 w3 w4 : World} {t bn bm bd sz sz2 sz3 m m1 m2 m3 : Nat} {N N2 N3 : Tab} {last last2 last3 : Int} {G2 : Value → Option Value} (hT : TabAt w t bn bm sz N (L : Int) last) {f r : Int} {n : Nd} (hN : N f = some n) (_hd2 : MapIs w2 Tryz.prog 88 bd m2 G2) (hok2 : ExOk N2 fr G2) (hT2 : TabAt w2 t bn bm sz2 N2 (L : Int) last2) (hT3 : TabAt w3 t bn bm sz3 N3 (L : Int) last3) (hs3 : Sub N2 N3) (hsN3 : Sub N N3) (ho3 : Ok N3 n.lv r) (hE : ∀ a, E N3 r a = true ↔ ExP fr (E N f) a)
    (hl1 : last ≤ last3) (hl2 : last3 + 2048 ≤ last + 2048 * ((2 * pw k : Nat) : Int)) (hl3 : sz3 + 2048 ≤ sz + 2048 * (2 * pw k)) (hm4 : MapIs w4 Tryz.prog 88 bd m3 (setG G2 (.int .i64 f) (some (.int .i64 r)))) (hg : w3.grownBy w4 (some bd)) (hbt : t ≠ bd) (hnn : bd ≠ bn) (hnm : bd ≠ bm) (hm2 : m2 + 1 ≤ m1 + pw k) (hm1 : m1 + 1 ≤ m + pw k) (hm3 : m3 ≤ m2 + 1) (_h : 0 < 1) (hK : Keeps [t, bn, bm, bd] w w4) :
    ∃ r' N' last' sz' m' G', Ending.returned (.int .i64 r) = .returned (.int .i64 r') ∧ TabAt w4 t bn bm sz' N' (L : Int) last' ∧ MapIs w4 Tryz.prog 88 bd m' G' ∧ ExOk N' fr G' ∧ Sub N N' ∧ Ok N' n.lv r' ∧
      (∀ a, E N' r' a = true ↔ ExP fr (E N f) a) ∧ last ≤ last' ∧ last' + 2048 ≤ last + 2048 * ((2 * pw k : Nat) : Int) ∧ sz' + 2048 ≤ sz + 2048 * (2 * pw k) ∧ m' + 1 ≤ m + 2 * pw k ∧ Keeps [t, bn, bm, bd] w w4 := by
  have hlv := hT.wf.lv f n hN
  refine ⟨r, N3, last3, sz3, m3, _, rfl, hT3.keeps ((Keeps.refl [bd] w3).grown hg (by simp)) (by simp; exact hbt) (by simp; exact fun e => hnn e.symm) (by simp; exact fun e => hnm e.symm), hm4, ?_, hsN3, ho3, hE, hl1, hl2, hl3, by omega, hK⟩
  refine (hok2.sub hT2.wf hT3.wf hs3).set (((ok_node hN).mono hlv.1).sub hsN3) (ho3.mono hlv.1) ?_ ?_
  · intro l' q1
    have z1 := ok_back hT3.wf hsN3 ((ok_node hN).mono hlv.1) q1
    rcases z1 with e | e | ⟨nd, hnd, hl⟩
    · have := hT.wf.none_of (Or.inl e); rw [hN] at this; cases this
    · have := hT.wf.none_of (Or.inr e); rw [hN] at this; cases this
    · rw [hN] at hnd; cases hnd; exact ho3.mono hl
  · intro a
    rw [hE]
    exact exP_congr (fun b => (E_sub hT.wf hT3.wf hsN3 (ok_node hN) b).symm) fr a

set_option maxRecDepth 100000 in
set_option maxHeartbeats 1000000 in
theorem exists_rec {L vb vo cap : Nat} {fr : Int → Bool} (k : Nat) (IH : ExistsSaid L vb vo cap fr k) {w : World} {t bn bm bd sz m : Nat} {N : Tab} {last : Int} {G : Value → Option Value} (hT : TabAt w t bn bm sz N (L : Int) last) (hd : MapIs w Tryz.prog 88 bd m G) (hok : ExOk N fr G) (hv : Truths w vb vo L fr) (hvS : vb ∉ [t, bn, bm, bd]) (hnn : bd ≠ bn) (hnm : bd ≠ bm) {f : Int} {n : Nd} (hN : N f = some n)
    (hlk : (L : Int) - n.lv ≤ (k + 1 : Nat)) (hb1 : last + 2048 * (pw (k + 1) : Int) ≤ 4611686018427387904) (hb2 : sz + 2048 * pw (k + 1) < maxLen) (hb3 : m + pw (k + 1) < maxLen) (hG : G (.int .i64 f) = none) :
    Calls Tryz.prog 183 #[.pointer (some ⟨t, 0, none⟩), .int .i64 f, .slice (some ⟨vb, vo, none⟩) L cap, .map (some bd)] w fun e w' => ∃ r N' last' sz' m' G', e = .returned (.int .i64 r) ∧ TabAt w' t bn bm sz' N' (L : Int) last' ∧ MapIs w' Tryz.prog 88 bd m' G' ∧ ExOk N' fr G' ∧ Sub N N' ∧ Ok N' n.lv r ∧
      (∀ a, E N' r a = true ↔ ExP fr (E N f) a) ∧ last ≤ last' ∧ last' + 2048 ≤ last + 2048 * (pw (k + 1) : Int) ∧ sz' + 2048 ≤ sz + 2048 * pw (k + 1) ∧ m' + 1 ≤ m + pw (k + 1) ∧ Keeps [t, bn, bm, bd] w w' := by
  have hpp : pw (k + 1) = 2 * pw k := rfl
  rw [hpp] at hb1 hb2 hb3 ⊢
  clear hpp
  have hp1 := pw_pos k
  have hf : Fits f := hT.fits (ok_node hN)
  have c1 := hT.c1
  have hrun := (hd.look lawFn Tryz.underlying246 (zero69 _) (keyFn hf)).1
  rw [hG] at hrun
  simp only [Option.getD_none, Option.isSome_none] at hrun
  have hrun2 := (node_run hT hN).1
  have hlv := hT.wf.lv f n hN
  have hL8 := hT.wf.tops
  have hlo := hT.wf.lo f n hN
  have hhi := hT.wf.hi f n hN
  have HGn : Hid (G (.int .i64 f) = none) := hG
  have HN : Hid (N f = some n) := hN
  have lb : bd < w.heap.size := hd.lt
  have l1 : t < w.heap.size := cell_lt (p := ⟨t, 0, none⟩) hT.c0
  have l2 := hT.names.lt
  have l3 := hT.nodes.lt
  have hbt : t ≠ bd := hd.ne_cell hT.c0
  clear hG hN
  obtain ⟨W, hW⟩ : ∃ W, W = w.alloc (.cells #[Value.int .i64 n.lv, Value.int .i64 n.lo, Value.int .i64 n.hi] 157) := ⟨_, rfl⟩
  have hkW : Keeps [] w W := by rw [hW]; exact (Keeps.refl _ _).alloc _
  have s0 : BoxS W [t, bn, bm, bd] w.heap.size n.lv n.lo n.hi W.drew := ⟨by rw [hW]; simp, by rw [hW]; simp, by rw [hW]; simp, (Keeps.refl _ _).drew⟩
  have hTW : TabAt W.drew t bn bm sz N (L : Int) last := hT.grow hkW.drew
  have hdW : MapIs W.drew Tryz.prog 88 bd m G := hd.keeps hkW.drew (by simp)
  have hvW : Truths W.drew vb vo L fr := fun i hi => hkW.drew.cell (hv i hi) (by simp)
  have HW : Hid (W = w.alloc (.cells #[Value.int .i64 n.lv, Value.int .i64 n.lo, Value.int .i64 n.hi] 157)) := hW
  have hB : w.heap.size ∉ [t, bn, bm, bd] := by simp; omega
  have hlk2 : (L : Int) - (n.lv + 1) ≤ (k : Int) := by omega
  have hM1 : 0 ≤ n.lv + 1 := by omega
  clear hW
  go_enter Tryz.func183, Tryz.ntmps183
  go_wp2_with fail
  rw [← HW.out]
  clear hrun hrun2
  go_region_held3 (fun w' => w'.cell? ⟨w.heap.size, 0, none⟩ = some (.int .i64 n.lv) ∧ w'.cell? ⟨w.heap.size, 1, none⟩ = some (.int .i64 n.lo) ∧ w'.cell? ⟨w.heap.size, 2, none⟩ = some (.int .i64 n.hi) ∧ Keeps [t, bn, bm, bd] W w')
    (first | exact s0 | exact boxS_keep hB (by assumption) (by assumption) | assumption)
    (first
      | (go_at_call_of 183 (Value.int IntKind.i64 n.lo); refine (IH W.drew t bn bm bd sz m N last G (n.lv + 1) n.lo hTW hdW hok hvW hvS hnn hnm hM1 hlk2 hlo ?z1 ?z2 ?z3).mono ?_; (case z1 => omega); (case z2 => omega); (case z3 => omega); rintro e w1 ⟨r0, N1, last1, sz1, m1, G1, rfl, hT1, hd1, hok1, hs1, ho1, hE1, hla1, hlb1, hsz1, hm1, hk1⟩)
      | (go_at_call_of 183 (Value.int IntKind.i64 n.hi); refine (IH w1 t bn bm bd sz1 m1 N1 last1 G1 (n.lv + 1) n.hi hT1 hd1 hok1 ?z0 hvS hnn hnm hM1 hlk2 ?z1 ?z2 ?z3 ?z4).mono ?_; (case z0 => exact fun i hi => hk1.cell (hvW i hi) hvS); (case z1 => exact hhi.sub hs1); (case z2 => omega); (case z3 => omega); (case z4 => omega); rintro e w2 ⟨r1, N2, last2, sz2, m2, G2, rfl, hT2, hd2, hok2, hs2, ho2, hE2, hla2, hlb2, hsz2, hm2, hk2⟩))
  have s2 := (by assumption : BoxS W [t, bn, bm, bd] w.heap.size n.lv n.lo n.hi w2)
  have d0 := s2.1
  obtain ⟨j, hj⟩ := Int.eq_ofNat_of_zero_le hlv.1
  have hjL : j < L := by omega
  have hcell : w2.cell? ⟨vb, vo + n.lv.toNat, none⟩ = some (.bool (fr n.lv)) := by
    have := hk2.cell (hk1.cell (hvW j hjL) hvS) hvS
    rw [hj]
    exact this
  have hjL' := hlv.2
  have hj0 := hlv.1
  have hbdS : bd ∉ [t, bn, bm] := by simp; exact ⟨fun e => hbt e.symm, hnn, hnm⟩
  have ho1' := ho1.sub hs2
  have hE1' : ∀ a, E N2 r0 a = true ↔ ExP fr (E N n.lo) a := fun a => by rw [E_sub hT1.wf hT2.wf hs2 ho1]; exact hE1 a
  have hE2' : ∀ a, E N2 r1 a = true ↔ ExP fr (E N n.hi) a := fun a => (hE2 a).trans (exP_congr (fun b => E_sub hT.wf hT1.wf hs1 hhi b) fr a)
  have hkW2' := s2.2.2.2
  clear hj
  cases ha : fr n.lv with
  | true =>
    rw [ha] at hcell
    have HA : Hid (fr n.lv = true) := ha
    clear ha s2
    go_wp2_with fail
    refine (tchoose_lv hT2 hM1 ho1' (ok_one _) ho2 (by omega) (by omega)).mono ?_
    rintro e w3 ⟨r, N3, last3, sz3, rfl, hT3, hs3, ho3, hE3, hla3, hlb3, hsz3, hk3'⟩
    have hk3 : Keeps [t, bn, bm, bd] w2 w3 := hk3'.mono (by simp)
    obtain ⟨W3, hr3, hm3, hg3⟩ := (hd2.keeps hk3' hbdS).updates lawFn Tryz.underlying246 (by omega) (keyFn hf)
    have hkW2 : Keeps [t, bn, bm, bd] W (W3 (.int .i64 r)) := (hkW2'.trans hk3).grown (hg3 _) (by simp)
    have d0' := hk3.cell d0 hB
    have hm4 := hm3 (.int .i64 r)
    have hr4 := (hm4.look lawFn Tryz.underlying246 (zero69 _) (keyFn hf)).2
    rw [setG_same] at hr4
    simp only [Option.getD_some] at hr4
    go_wp2_with fail
    go_ret
    have hsN3 : Sub N N3 := hs1.trans (hs2.trans hs3)
    have hE : ∀ a, E N3 r a = true ↔ ExP fr (E N f) a := by
      intro a
      rw [exP_free hT.wf HN.out HA.out, ← hE1', ← hE2', hE3, E_one hT2.wf]
      cases E N2 r0 a <;> simp
    exact exists_end hT HN.out hd2 hok2 hT2 hT3 hs3 hsN3 (ho3.mono (by omega)) hE (by omega) (by omega) (by omega) hm4 (hg3 _) hbt hnn hnm hm2 hm1 (by split <;> omega) (by omega) ((hkW.mono (by simp)).trans hkW2)
  | false =>
    rw [ha] at hcell
    have HA : Hid (fr n.lv = false) := ha
    clear ha s2
    go_wp2_with fail
    refine (join_at hT2 n.lv r0 r1 hlv.1 hlv.2 ho1' ho2 (by omega) (by omega)).mono ?_
    rintro e w3 ⟨r, N3, last3, sz3, rfl, hT3, hs3, ho3, hE3, hla3, hlb3, hsz3, hk3'⟩
    have hk3 : Keeps [t, bn, bm, bd] w2 w3 := hk3'.mono (by simp)
    obtain ⟨W3, hr3, hm3, hg3⟩ := (hd2.keeps hk3' hbdS).updates lawFn Tryz.underlying246 (by omega) (keyFn hf)
    have hkW2 : Keeps [t, bn, bm, bd] W (W3 (.int .i64 r)) := (hkW2'.trans hk3).grown (hg3 _) (by simp)
    have d0' := hk3.cell d0 hB
    have hm4 := hm3 (.int .i64 r)
    have hr4 := (hm4.look lawFn Tryz.underlying246 (zero69 _) (keyFn hf)).2
    rw [setG_same] at hr4
    simp only [Option.getD_some] at hr4
    go_wp2_with fail
    go_ret
    have hsN3 : Sub N N3 := hs1.trans (hs2.trans hs3)
    have hE : ∀ a, E N3 r a = true ↔ ExP fr (E N f) a := by
      intro a
      rw [exP_bound hT.wf HN.out HA.out, hE3]
      cases a n.lv
      · simpa using hE1' a
      · simpa using hE2' a
    exact exists_end hT HN.out hd2 hok2 hT2 hT3 hs3 hsN3 ho3 hE (by omega) (by omega) (by omega) hm4 (hg3 _) hbt hnn hnm hm2 hm1 (by split <;> omega) (by omega) ((hkW.mono (by simp)).trans hkW2)

theorem exists_any {L vb vo cap : Nat} {fr : Int → Bool} : ∀ k, ExistsSaid L vb vo cap fr k := by
  intro k
  have hit : ∀ (k : Nat) (w : World) (t bn bm bd sz m : Nat) (N : Tab) (last : Int) (G : Value → Option Value) (l f : Int), TabAt w t bn bm sz N (L : Int) last → MapIs w Tryz.prog 88 bd m G → ExOk N fr G → Ok N l f → (G (.int .i64 f)).isSome = true →
      Calls Tryz.prog 183 #[.pointer (some ⟨t, 0, none⟩), .int .i64 f, .slice (some ⟨vb, vo, none⟩) L cap, .map (some bd)] w fun e w' => ∃ r N' last' sz' m' G', e = .returned (.int .i64 r) ∧ TabAt w' t bn bm sz' N' (L : Int) last' ∧ MapIs w' Tryz.prog 88 bd m' G' ∧ ExOk N' fr G' ∧ Sub N N' ∧ Ok N' l r ∧
        (∀ a, E N' r a = true ↔ ExP fr (E N f) a) ∧ last ≤ last' ∧ last' + 2048 ≤ last + 2048 * (pw k : Int) ∧ sz' + 2048 ≤ sz + 2048 * pw k ∧ m' + 1 ≤ m + pw k ∧ Keeps [t, bn, bm, bd] w w' := by
    intro k w t bn bm bd sz m N last G l f hT hd hok hf hG
    have hpp := pw_pos k
    obtain ⟨v, hv⟩ := Option.isSome_iff_exists.1 hG
    obtain ⟨r, rfl, _, _, h3, h4⟩ := hok.1 f v hv
    refine (exists_hit hd (hT.fits hf) hv).mono ?_
    rintro e w' ⟨rfl, rfl⟩
    exact ⟨r, N, last, sz, m, G, rfl, hT, hd, hok, Sub.refl _, h3 l hf, h4, by omega, by omega, by omega, by omega, Keeps.refl _ _⟩
  induction k with
  | zero =>
    intro w t bn bm bd sz m N last G l f hT hd hok hv hvS hnn hnm hl0 hlk hof hb1 hb2 hb3
    refine hit 0 w t bn bm bd sz m N last G l f hT hd hok hof ?_
    rcases hof with rfl | rfl | ⟨nd, hnd, hl⟩
    · exact hok.2.1
    · exact hok.2.2
    · have := hT.wf.lv f nd hnd; omega
  | succ k IH =>
    intro w t bn bm bd sz m N last G l f hT hd hok hv hvS hnn hnm hl0 hlk hof hb1 hb2 hb3
    cases hG : G (.int .i64 f) with
    | some v => exact hit (k + 1) w t bn bm bd sz m N last G l f hT hd hok hof (by rw [hG]; rfl)
    | none =>
      rcases hof with rfl | rfl | ⟨nd, hnd, hl⟩
      · have := hok.2.1; rw [hG] at this; cases this
      · have := hok.2.2; rw [hG] at this; cases this
      · refine (exists_rec k IH hT hd hok hv hvS hnn hnm hnd (by omega) hb1 hb2 hb3 hG).mono ?_
        rintro e w' ⟨r, N', last', sz', m', G', h1, h2, h3, h4, h5, h6, h7⟩
        exact ⟨r, N', last', sz', m', G', h1, h2, h3, h4, h5, h6.mono hl, h7⟩

set_option maxRecDepth 100000 in
set_option maxHeartbeats 1000000 in
theorem texists_any {w : World} {t bn bm sz L vb vo cap : Nat} {N : Tab} {last : Int} {fr : Int → Bool} (hT : TabAt w t bn bm sz N (L : Int) last) {f : Int} (hf : Ok N 0 f) (hv : Truths w vb vo L fr) (hvS : vb ∉ [t, bn, bm]) (hvl : vb < w.heap.size) (hb1 : last + 4194304 ≤ 4611686018427387904) (hb2 : sz + 4194304 < maxLen) :
    Calls Tryz.prog 136 #[.pointer (some ⟨t, 0, none⟩), .int .i64 f, .slice (some ⟨vb, vo, none⟩) L cap] w fun e w' => ∃ r N' last' sz', e = .returned (.int .i64 r) ∧ TabAt w' t bn bm sz' N' (L : Int) last' ∧ Sub N N' ∧ Ok N' 0 r ∧
    (∀ a, E N' r a = true ↔ ExP fr (E N f) a) ∧ last ≤ last' ∧ last' ≤ last + 4194304 ∧ sz' ≤ sz + 4194304 ∧ Keeps [t, bn, bm] w w' := by
  have hmm := @run_makeMap Tryz.prog
  have hL8 := hT.wf.tops
  obtain ⟨wa, ha1, ha2, ha3⟩ := (MapIs.made w Tryz.prog 88).update lawFn Tryz.underlying246 (by decide) (keyFn (f := 0) (by unfold Fits; omega)) (.int .i64 0)
  simp only [Option.isSome_none, Bool.false_eq_true, if_false, Nat.zero_add] at ha2
  obtain ⟨wb, hb1', hb2', hb3'⟩ := ha2.update lawFn Tryz.underlying246 (by decide) (keyFn (f := 1) (by unfold Fits; omega)) (.int .i64 1)
  rw [setG_other _ _ (by simp)] at hb2'
  simp only [Option.isSome_none, Bool.false_eq_true, if_false, Nat.reduceAdd] at hb2'
  go_enter Tryz.func136, Tryz.ntmps136
  go_wp2_with fail
  have hok : ExOk N fr (setG (setG (fun _ => none) (.int .i64 0) (some (.int .i64 0))) (.int .i64 1) (some (.int .i64 1))) := by
    refine ⟨fun x v hv => ?_, ?_, ?_⟩
    · by_cases e : x = 1
      · subst e
        rw [setG_same] at hv; cases hv
        refine ⟨1, rfl, ok_one _, ok_one _, fun l _ => ok_one _, fun a => ?_⟩
        rw [E_one hT.wf]
        constructor
        · intro _; exact ⟨a, fun _ _ => rfl, E_one hT.wf a⟩
        · intro _; rfl
      · rw [setG_other _ _ (by simp [e])] at hv
        by_cases e0 : x = 0
        · subst e0
          rw [setG_same] at hv; cases hv
          refine ⟨0, rfl, ok_zero _, ok_zero _, fun l _ => ok_zero _, fun a => ?_⟩
          rw [E_zero hT.wf]
          constructor
          · intro h; cases h
          · rintro ⟨b, _, hb⟩; rw [E_zero hT.wf] at hb; exact hb
        · rw [setG_other _ _ (by simp [e0])] at hv; cases hv
    · rw [setG_other _ _ (by simp), setG_same]; rfl
    · rw [setG_same]; rfl
  have hl : t < w.heap.size := cell_lt (p := ⟨t, 0, none⟩) hT.c0
  have l2 := hT.names.lt
  have l3 := hT.nodes.lt
  have hk : Keeps [w.heap.size] w wb := (((Keeps.refl [w.heap.size] w).alloc _).grown ha3 (by simp)).grown hb3' (by simp)
  have hp : pw 11 = 2048 := by decide
  have hml : 2050 < maxLen := by decide
  refine (exists_any 11 _ t bn bm w.heap.size sz 2 N last _ 0 f (hT.keeps hk (by simp; omega) (by simp; omega) (by simp; omega)) hb2' hok (fun i hi => hk.cell (hv i hi) (by simp; omega)) (by simp at hvS ⊢; omega) (by omega) (by omega) (by omega) (by omega) hf (by rw [hp]; omega) (by rw [hp]; omega) (by rw [hp]; exact hml)).mono ?_
  rintro e w1 ⟨r, N', last', sz', m', G', rfl, h1, h2, h3, h4, h5, h6, h7, h8, h9, h10, h11⟩
  rw [hp] at h8 h9
  go_wp2_with fail
  go_ret
  refine ⟨r, N', last', sz', rfl, h1, h4, h5, h6, h7, by omega, by omega, ?_⟩
  exact ((hk.mono (by simp)).trans h11).strike (by simp)

end Go.Proofs.YtmgjegokkbghlaaGreatDoor
