/- The walks of count, Count, NewTable, combine. -/
import Derived.Test.YtmgjegokkbghlaaGreatDoorTable
namespace Go.Proofs.YtmgjegokkbghlaaGreatDoor
open Go.RowKit Go.Maps Bdd
attribute [local go_sem ↓] Go.wp_at_zero Go.wp_at_succ

theorem cnt_le (P : (Int → Bool) → Bool) : ∀ (k : Nat) (l : Int) (a : Int → Bool), cnt P k l a ≤ 2 ^ k
  | 0, _, a => by simp [cnt]; split <;> omega
  | k + 1, l, a => by
    have h1 := cnt_le P k (l + 1) (setAt a l false)
    have h2 := cnt_le P k (l + 1) (setAt a l true)
    simp only [cnt, Nat.pow_succ]
    omega

/-- of how many assignments of L variables a function is true -/
def cntv (N : Tab) (L : Nat) (f : Int) : Nat := cnt (E N f) L 0 (fun _ => false)
theorem cntv_le {N : Tab} {L : Nat} (f : Int) (hL : L ≤ 11) : cntv N L f ≤ 2048 := by
  have := cnt_le (E N f) L 0 (fun _ => false)
  have h2 : 2 ^ L ≤ 2 ^ 11 := Nat.pow_le_pow_right (by omega) hL
  unfold cntv; omega
theorem cntv_node {N : Tab} {L : Nat} {last : Int} (h : Wf N (L : Int) last) {f : Int} {n : Nd} (hn : N f = some n) : cntv N L f = cntv N L n.lo / 2 + cntv N L n.hi / 2 := by
  have hv := h.lv f n hn
  have := cnt_node h hn L 0 (fun _ => false) hv.1 (by omega)
  unfold cntv
  omega

/-- what the memo says -/
def CntOk (N : Tab) (L : Nat) (G : Value → Option Value) : Prop := (∀ f v, G (.int .i64 f) = some v → v = .int .i64 (cntv N L f)) ∧ (G (.int .i64 0)).isSome = true ∧ (G (.int .i64 1)).isSome = true

def CountSaid (k : Nat) : Prop := ∀ (w : World) (t bn bm bd sz n L : Nat) (N : Tab) (last : Int) (G : Value → Option Value) (l f : Int),
  TabR w t bn bm sz N (L : Int) last → MapIs w Tryz.prog 88 bd n G → CntOk N L G → bd ≠ bn → bd ≠ bm → (L : Int) - l ≤ k → Ok N l f → n + pw k < maxLen →
  Calls Tryz.prog 74 #[.pointer (some ⟨t, 0, none⟩), .int .i64 f, .map (some bd)] w fun e w' => ∃ n' G', e = .returned (.int .i64 (cntv N L f)) ∧ MapIs w' Tryz.prog 88 bd n' G' ∧ CntOk N L G' ∧ n' + 1 ≤ n + pw k ∧ Keeps [bd] w w'

theorem zeroInt (w : World) : (zeroValue 3).run Tryz.prog w = .ok (.int .i64 0) w := by kernel_rfl

set_option maxRecDepth 100000 in
set_option maxHeartbeats 400000 in
theorem count_hit {w : World} {t bd n : Nat} {f : Int} {v : Value} {G : Value → Option Value} (hm : MapIs w Tryz.prog 88 bd n G) (hf : Fits f) (hG : G (.int .i64 f) = some v) :
    Calls Tryz.prog 74 #[.pointer (some ⟨t, 0, none⟩), .int .i64 f, .map (some bd)] w fun e w' => e = .returned v ∧ w = w' := by
  have hrun := (hm.look lawFn Tryz.underlying165 (zeroInt _) (keyFn hf)).1
  rw [hG] at hrun
  simp only [Option.getD_some, Option.isSome_some] at hrun
  clear hG
  go_enter Tryz.func74, Tryz.ntmps74
  go_wp2_with fail
  go_ret
  exact ⟨rfl, rfl⟩

/-- the box of a node, and all that was there but the memo -/
abbrev Boxd (W : World) (bd B : Nat) (x y z : Int) (w' : World) : Prop := w'.cell? ⟨B, 0, none⟩ = some (.int .i64 x) ∧ w'.cell? ⟨B, 1, none⟩ = some (.int .i64 y) ∧ w'.cell? ⟨B, 2, none⟩ = some (.int .i64 z) ∧ Keeps [bd] W w'
theorem boxd_keep {W a b : World} {bd B : Nat} {x y z : Int} (hne : B ≠ bd) (hk : Keeps [bd] a b) (hS : Boxd W bd B x y z a) : Boxd W bd B x y z b :=
  ⟨hk.cell hS.1 (by simp [hne]), hk.cell hS.2.1 (by simp [hne]), hk.cell hS.2.2.1 (by simp [hne]), hS.2.2.2.trans hk⟩

/-- a store, whatever is stored -/
theorem MapIs.updates {P : Program} {k : TypeId} {w : World} {b n : Nat} {G : Value → Option Value} (h : MapIs w P k b n G) (K : Keyed P k) {t e : TypeId} (ht : P.underlying t = some (.map k e)) (hn : n < maxLen) {key : Value} {kl : Lit} (hkey : keyOf P k key = some kl) :
    ∃ W : Value → World, (∀ val, (Instr.mapUpdate t (.map (some b)) key val).run P w = .ok () (W val)) ∧ (∀ val, MapIs (W val) P k b (if (G key).isSome then n else n + 1) (setG G key (some val))) ∧ ∀ val, w.grownBy (W val) (some b) :=
  ⟨fun v => Classical.choose (h.update K ht hn hkey v), fun v => (Classical.choose_spec (h.update K ht hn hkey v)).1, fun v => (Classical.choose_spec (h.update K ht hn hkey v)).2.1, fun v => (Classical.choose_spec (h.update K ht hn hkey v)).2.2⟩
theorem CntOk.set {N : Tab} {L : Nat} {G : Value → Option Value} (h : CntOk N L G) (f : Int) : CntOk N L (setG G (.int .i64 f) (some (.int .i64 (cntv N L f)))) := by
  have key : ∀ x, (G (.int .i64 x)).isSome = true → (setG G (.int .i64 f) (some (.int .i64 (cntv N L f))) (.int .i64 x)).isSome = true := by
    intro x hx
    by_cases e : x = f
    · subst e; rw [setG_same]; rfl
    · rw [setG_other _ _ (by simp [e])]; exact hx
  refine ⟨fun x v hv => ?_, key 0 h.2.1, key 1 h.2.2⟩
  by_cases e : x = f
  · subst e; rw [setG_same] at hv; cases hv; rfl
  · rw [setG_other _ _ (by simp [e])] at hv; exact h.1 x v hv
theorem boxd_grown {W a b : World} {bd B : Nat} {x y z : Int} (hne : B ≠ bd) (hg : a.grownBy b (some bd)) (hS : Boxd W bd B x y z a) : Boxd W bd B x y z b :=
  boxd_keep hne ((Keeps.refl [bd] a).grown hg (by simp)) hS

set_option maxRecDepth 100000 in
set_option maxHeartbeats 1000000 in
theorem count_rec (k : Nat) (IH : CountSaid k) {w : World} {t bn bm bd sz n L : Nat} {N : Tab} {last : Int} {G : Value → Option Value} {f : Int} {nd : Nd} (hT : TabR w t bn bm sz N (L : Int) last) (hm : MapIs w Tryz.prog 88 bd n G) (hok : CntOk N L G) (h1 : bd ≠ bn) (h2 : bd ≠ bm) (hN : N f = some nd)
    (hk : (L : Int) - nd.lv ≤ (k + 1 : Nat)) (hn : n + pw (k + 1) < maxLen) (hG : G (.int .i64 f) = none) :
    Calls Tryz.prog 74 #[.pointer (some ⟨t, 0, none⟩), .int .i64 f, .map (some bd)] w fun e w' => ∃ n' G', e = .returned (.int .i64 (cntv N L f)) ∧ MapIs w' Tryz.prog 88 bd n' G' ∧ CntOk N L G' ∧ n' + 1 ≤ n + pw (k + 1) ∧ Keeps [bd] w w' := by
  have hpp : pw (k + 1) = 2 * pw k := rfl
  rw [hpp] at hn ⊢
  clear hpp
  have hp1 := pw_pos k
  have hf : Fits f := hT.fits (ok_node hN)
  have c1 := hT.c1
  have hrun := (hm.look lawFn Tryz.underlying165 (zeroInt _) (keyFn hf)).1
  rw [hG] at hrun
  simp only [Option.getD_none, Option.isSome_none] at hrun
  have hrun2 := hT.run hN
  have hlv := hT.wf.lv f nd hN
  have hL8 := hT.wf.tops
  have hlo := hT.wf.lo f nd hN
  have hhi := hT.wf.hi f nd hN
  have HC : Hid (cntv N L f = cntv N L nd.lo / 2 + cntv N L nd.hi / 2) := cntv_node hT.wf hN
  have b1 := cntv_le (N := N) (L := L) nd.lo (by omega)
  have b2 := cntv_le (N := N) (L := L) nd.hi (by omega)
  obtain ⟨x, hx⟩ : ∃ x, x = cntv N L nd.lo := ⟨_, rfl⟩
  obtain ⟨y, hy⟩ : ∃ y, y = cntv N L nd.hi := ⟨_, rfl⟩
  have HX : Hid (x = cntv N L nd.lo) := hx
  have HY : Hid (y = cntv N L nd.hi) := hy
  rw [← hx] at b1
  rw [← hy] at b2
  have HGn : Hid (G (.int .i64 f) = none) := hG
  have lb : bd < w.heap.size := hm.lt
  have l1 : t < w.heap.size := cell_lt (p := ⟨t, 0, none⟩) hT.c0
  have hbt : t ≠ bd := hm.ne_cell hT.c0
  clear hG hx hy hN
  obtain ⟨W, hW⟩ : ∃ W, W = w.alloc (.cells #[Value.int .i64 nd.lv, Value.int .i64 nd.lo, Value.int .i64 nd.hi] 157) := ⟨_, rfl⟩
  have hkW : Keeps [] w W := by rw [hW]; exact (Keeps.refl _ _).alloc _
  have s0 : Boxd W bd w.heap.size nd.lv nd.lo nd.hi W.drew := ⟨by rw [hW]; simp, by rw [hW]; simp, by rw [hW]; simp, (Keeps.refl _ _).drew⟩
  have hTW : TabR W.drew t bn bm sz N (L : Int) last := hT.grow hkW.drew
  have hmW : MapIs W.drew Tryz.prog 88 bd n G := hm.keeps hkW.drew (by simp)
  have HW : Hid (W = w.alloc (.cells #[Value.int .i64 nd.lv, Value.int .i64 nd.lo, Value.int .i64 nd.hi] 157)) := hW
  have hB : w.heap.size ≠ bd := by omega
  have hq1 : t ∉ [bd] := by simp [hbt]
  have hq2 : bn ∉ [bd] := by simp; exact fun e => h1 e.symm
  have hq3 : bm ∉ [bd] := by simp; exact fun e => h2 e.symm
  clear hW
  go_enter Tryz.func74, Tryz.ntmps74
  go_wp2_with fail
  rw [← HW.out]
  clear hrun hrun2
  go_region_held3 (fun w' => w'.cell? ⟨w.heap.size, 0, none⟩ = some (.int .i64 nd.lv) ∧ w'.cell? ⟨w.heap.size, 1, none⟩ = some (.int .i64 nd.lo) ∧ w'.cell? ⟨w.heap.size, 2, none⟩ = some (.int .i64 nd.hi) ∧ Keeps [bd] W w')
    (first | exact s0 | exact boxd_grown hB (hg3 _) (by assumption) | exact boxd_keep hB (by assumption) (by assumption) | assumption)
    (first
      | (go_at_call_of 74 (Value.int IntKind.i64 nd.lo); refine (IH W.drew t bn bm bd sz n L N last G (nd.lv + 1) nd.lo hTW hmW hok h1 h2 ?z1 hlo ?z2).mono ?_; (case z1 => omega); (case z2 => omega); rintro e w1 ⟨n1, G1, rfl, hm1, hok1, hn1, hk1⟩; rw [← HX.out])
      | (go_at_call_of 74 (Value.int IntKind.i64 nd.hi); refine (IH w1 t bn bm bd sz n1 L N last G1 (nd.lv + 1) nd.hi ?z0 hm1 hok1 h1 h2 ?z1 hhi ?z2).mono ?_; (case z0 => exact hTW.keeps hk1 hq1 hq2 hq3); (case z1 => omega); (case z2 => omega); rintro e w2 ⟨n2, G2, rfl, hm2, hok2, hn2, hk2⟩; rw [← HY.out]; obtain ⟨W3, hr3, hm3, hg3⟩ := hm2.updates lawFn Tryz.underlying165 (by omega) (keyFn hf)))
  have hval : IntKind.i64.wrap (IntKind.i64.wrap ((x : Int) / 2) + IntKind.i64.wrap ((y : Int) / 2)) = ((cntv N L f : Nat) : Int) := by
    rw [HC.out, ← HX.out, ← HY.out]
    have w1 : IntKind.i64.wrap ((x : Int) / 2) = (x : Int) / 2 := IntWalk.i64_in _ ⟨by omega, by omega⟩
    have w2 : IntKind.i64.wrap ((y : Int) / 2) = (y : Int) / 2 := IntWalk.i64_in _ ⟨by omega, by omega⟩
    have w3 : IntKind.i64.wrap ((x : Int) / 2 + (y : Int) / 2) = (x : Int) / 2 + (y : Int) / 2 := IntWalk.i64_in _ ⟨by omega, by omega⟩
    rw [w1, w2, w3]
    omega
  have hkW2 := (by assumption : Boxd W bd w.heap.size nd.lv nd.lo nd.hi (W3 (Value.int IntKind.i64 (IntKind.i64.wrap (IntKind.i64.wrap (↑x / 2) + IntKind.i64.wrap (↑y / 2)))))).2.2.2
  rw [hval] at hkW2 ⊢
  have hm4 := hm3 (.int .i64 (cntv N L f))
  have hr4 := (hm4.look lawFn Tryz.underlying165 (zeroInt _) (keyFn hf)).2
  rw [setG_same] at hr4
  simp only [Option.getD_some] at hr4
  clear hr3 hval HC
  go_wp2_with fail
  go_ret
  refine ⟨_, _, rfl, hm4, hok2.set f, ?_, ?_⟩
  · split <;> omega
  · exact (hkW.mono (by simp)).trans hkW2

theorem count_any : ∀ k, CountSaid k := by
  intro k
  have hit : ∀ {w : World} {t bd n L : Nat} {N : Tab} {G : Value → Option Value} {f : Int} (k : Nat), MapIs w Tryz.prog 88 bd n G → CntOk N L G → Fits f → (G (.int .i64 f)).isSome = true →
      Calls Tryz.prog 74 #[.pointer (some ⟨t, 0, none⟩), .int .i64 f, .map (some bd)] w fun e w' => ∃ n' G', e = .returned (.int .i64 (cntv N L f)) ∧ MapIs w' Tryz.prog 88 bd n' G' ∧ CntOk N L G' ∧ n' + 1 ≤ n + pw k ∧ Keeps [bd] w w' := by
    intro w t bd n L N G f k hm hok hf hG
    obtain ⟨v, hv⟩ := Option.isSome_iff_exists.1 hG
    refine (count_hit hm hf hv).mono ?_
    rintro e w' ⟨rfl, rfl⟩
    have := pw_pos k
    exact ⟨n, G, by rw [hok.1 f v hv], hm, hok, by omega, Keeps.refl _ _⟩
  induction k with
  | zero =>
    intro w t bn bm bd sz n L N last G l f hT hm hok h1 h2 hk hf hn
    have hc : f = 0 ∨ f = 1 := by
      rcases hf with e | e | ⟨nd, hnd, hl⟩
      · exact Or.inl e
      · exact Or.inr e
      · have := hT.wf.lv f nd hnd; omega
    refine hit 0 hm hok (hT.fits hf) ?_
    rcases hc with rfl | rfl
    · exact hok.2.1
    · exact hok.2.2
  | succ k IH =>
    intro w t bn bm bd sz n L N last G l f hT hm hok h1 h2 hk hf hn
    cases hG : G (.int .i64 f) with
    | some v => exact hit (k + 1) hm hok (hT.fits hf) (by rw [hG]; rfl)
    | none =>
      rcases hf with rfl | rfl | ⟨nd, hnd, hl⟩
      · have := hok.2.1; rw [hG] at this; cases this
      · have := hok.2.2; rw [hG] at this; cases this
      · exact count_rec k IH hT hm hok h1 h2 hnd (by omega) hn hG

theorem cntv_zero {N : Tab} {L : Nat} {top last : Int} (h : Wf N top last) : cntv N L 0 = 0 := by
  unfold cntv
  rw [cnt_congr (Q := fun _ => false) (fun a => E_zero h a)]
  exact cnt_false L 0 _
theorem cntv_one {N : Tab} {L : Nat} {top last : Int} (h : Wf N top last) : cntv N L 1 = 2 ^ L := by
  unfold cntv
  rw [cnt_congr (Q := fun _ => true) (fun a => E_one h a)]
  exact cnt_true L 0 _

set_option maxRecDepth 100000 in
set_option maxHeartbeats 1000000 in
theorem tcount_r {w : World} {t bn bm sz L : Nat} {N : Tab} {last : Int} (hT : TabR w t bn bm sz N (L : Int) last) {f : Int} (hf : Ok N 0 f) :
    Calls Tryz.prog 44 #[.pointer (some ⟨t, 0, none⟩), .int .i64 f, .int .i64 L] w fun e w' => e = .returned (.int .i64 (cntv N L f)) ∧ Keeps [] w w' := by
  have hmm := @run_makeMap Tryz.prog
  have hL8 := hT.wf.tops
  obtain ⟨wa, ha1, ha2, ha3⟩ := (MapIs.made w Tryz.prog 88).update lawFn Tryz.underlying165 (by decide) (keyFn (f := 0) (by unfold Fits; omega)) (.int .i64 0)
  simp only [Option.isSome_none, Bool.false_eq_true, if_false, Nat.zero_add] at ha2
  obtain ⟨W, hb1, hb2, hb3⟩ := ha2.updates lawFn Tryz.underlying165 (by decide) (keyFn (f := 1) (by unfold Fits; omega))
  rw [setG_other _ _ (by simp)] at hb2
  simp only [Option.isSome_none, Bool.false_eq_true, if_false, Nat.reduceAdd] at hb2
  go_enter Tryz.func44, Tryz.ntmps44
  go_wp2_with fail
  have hpow : wrap64 ((2 : Int) ^ L) = ((cntv N L 1 : Nat) : Int) := by
    rw [cntv_one hT.wf]
    have hle : 2 ^ L ≤ 2 ^ 11 := Nat.pow_le_pow_right (by omega) (by omega)
    have e : ((2 : Int) ^ L) = ((2 ^ L : Nat) : Int) := by simp
    rw [e]
    generalize 2 ^ L = p at hle
    exact IntWalk.wrap64_in _ ⟨by omega, by omega⟩
  rw [hpow]
  have hok : CntOk N L (setG (setG (fun _ => none) (.int .i64 0) (some (.int .i64 0))) (.int .i64 1) (some (.int .i64 (cntv N L 1)))) := by
    refine ⟨fun x v hv => ?_, ?_, ?_⟩
    · by_cases e : x = 1
      · subst e; rw [setG_same] at hv; cases hv; rfl
      · rw [setG_other _ _ (by simp [e])] at hv
        by_cases e0 : x = 0
        · subst e0; rw [setG_same] at hv; cases hv; rw [cntv_zero hT.wf]; rfl
        · rw [setG_other _ _ (by simp [e0])] at hv; cases hv
    · rw [setG_other _ _ (by simp), setG_same]; rfl
    · rw [setG_same]; rfl
  have hl : t < w.heap.size := cell_lt (p := ⟨t, 0, none⟩) hT.c0
  have l2 := hT.ltn
  have l3 := hT.ltm
  have hk : Keeps [w.heap.size] w (W (.int .i64 (cntv N L 1))) := (((Keeps.refl [w.heap.size] w).alloc _).grown ha3 (by simp)).grown (hb3 _) (by simp)
  have hp : pw 11 = 2048 := by decide
  have hml : 2050 < maxLen := by decide
  refine (count_any 11 _ t bn bm w.heap.size sz 2 L N last _ 0 f (hT.keeps hk (by simp; omega) (by simp; omega) (by simp; omega)) (hb2 _) hok (by omega) (by omega) (by omega) hf (by rw [hp]; exact hml)).mono ?_
  rintro e w1 ⟨n', G', rfl, _, _, _, hk1⟩
  go_wp2_with fail
  go_ret
  exact ⟨rfl, (hk.trans hk1).strike (by simp)⟩

theorem tcount_any {w : World} {t bn bm sz L : Nat} {N : Tab} {last : Int} (hT : TabAt w t bn bm sz N (L : Int) last) {f : Int} (hf : Ok N 0 f) :
    Calls Tryz.prog 44 #[.pointer (some ⟨t, 0, none⟩), .int .i64 f, .int .i64 L] w fun e w' => e = .returned (.int .i64 (cntv N L f)) ∧ Keeps [] w w' := tcount_r hT.r hf

/-- the table with no node -/
theorem wf_empty {top : Int} (h : top ≤ 11) : Wf (fun _ => none) top 1 :=
  ⟨fun _ _ h => (by cases h), fun _ _ h => (by cases h), fun _ _ h => (by cases h), fun _ _ h => (by cases h), fun _ _ h => (by cases h), fun _ _ _ h => (by cases h), by omega, h⟩

set_option maxRecDepth 100000 in
theorem newTable_any {w : World} {top : Int} (h8 : top ≤ 11) :
    Calls Tryz.prog 32 #[] w fun e w' => ∃ t bn bm, e = .returned (.pointer (some ⟨t, 0, none⟩)) ∧ w.heap.size ≤ t ∧ w.heap.size ≤ bn ∧ w.heap.size ≤ bm ∧ TabAt w' t bn bm 0 (fun _ => none) top 1 ∧ Keeps [] w w' := by
  have hmm := @run_makeMap Tryz.prog
  go_enter Tryz.func32, Tryz.ntmps32
  go_wp2_with fail
  go_ret
  have n0 : ∀ v, (fun _ => none : Value → Option Value) v = namesG (fun _ => none) v := fun v => by
    unfold namesG
    rw [dif_neg (by rintro ⟨f, n, h, _⟩; cases h)]
  have m0 : ∀ v, (fun _ => none : Value → Option Value) v = nodesG (fun _ => none) v := fun v => by unfold nodesG; split <;> rfl
  refine ⟨w.heap.size + 2, w.heap.size, w.heap.size + 1, rfl, by omega, by omega, by omega, ⟨wf_empty h8, ?_, ?_, ?_, ?_, ?_, ?_, by omega, by omega⟩, (((Keeps.refl _ _).alloc _).alloc _).alloc _⟩
  · rw [World.cell?_alloc_at _ _ _ _ (by simp)]; rfl
  · rw [World.cell?_alloc_at _ _ _ _ (by simp)]; rfl
  · rw [World.cell?_alloc_at _ _ _ _ (by simp)]; rfl
  · rw [World.frozen?_alloc_at _ _ _ _ (by simp)]
  · exact (((MapIs.made w Tryz.prog 157).alloc _).alloc _).congr (fun v _ _ => n0 v)
  · exact ((show MapIs ((w.alloc (.map #[] 0)).alloc (.map #[] 0)) Tryz.prog 88 (w.heap.size + 1) 0 (fun _ => none) from by have := MapIs.made (w.alloc (.map #[] 0)) Tryz.prog 88; simpa using this).alloc _).congr (fun v _ _ => m0 v)

/-- Apply, of truth values -/
def app (what : Int) (a b : Bool) : Bool := if what = 0 then a && b else if what = 1 then a || b else if what = 2 then a != b else !a || b

set_option maxRecDepth 100000 in
set_option maxHeartbeats 1000000 in
theorem combine_any {w : World} {t bn bm sz : Nat} {N : Tab} {top last : Int} (hT : TabAt w t bn bm sz N top last) {what f g : Int} (hf : Ok N 0 f) (hg : Ok N 0 g) (hb1 : last + 4096 ≤ 4611686018427387904) (hb2 : sz + 4096 < maxLen) :
    Calls Tryz.prog 66 #[.pointer (some ⟨t, 0, none⟩), .int .i64 what, .int .i64 f, .int .i64 g] w fun e w' => ∃ r N' last' sz', e = .returned (.int .i64 r) ∧ TabAt w' t bn bm sz' N' top last' ∧ Sub N N' ∧ Ok N' 0 r ∧
    (∀ a, E N' r a = app what (E N f a) (E N g a)) ∧ last ≤ last' ∧ last' ≤ last + 4096 ∧ sz' ≤ sz + 4096 ∧ Keeps [t, bn, bm] w w' := by
  have z0 := fun a => E_zero hT.wf a
  have z1 := fun a => E_one hT.wf a
  by_cases h0 : what = 0
  · subst h0
    go_enter Tryz.func66, Tryz.ntmps66
    go_wp2_with fail
    refine (tchoose_any hT hf hg (ok_zero _) (by omega) (by omega)).mono ?_
    rintro e w1 ⟨r, N', last', sz', rfl, h1, h2, h3, h4, h5, h6, h7, h8⟩
    go_wp2_with fail
    go_ret
    refine ⟨r, N', last', sz', rfl, h1, h2, h3, fun a => ?_, h5, by omega, by omega, h8⟩
    rw [h4, E_zero hT.wf]; cases E N f a <;> simp [app]
  · by_cases h1 : what = 1
    · subst h1
      clear z0 z1
      go_enter Tryz.func66, Tryz.ntmps66
      go_wp2_with fail
      refine (tchoose_any hT hf (ok_one _) hg (by omega) (by omega)).mono ?_
      rintro e w1 ⟨r, N', last', sz', rfl, h1, h2, h3, h4, h5, h6, h7, h8⟩
      go_wp2_with fail
      go_ret
      refine ⟨r, N', last', sz', rfl, h1, h2, h3, fun a => ?_, h5, by omega, by omega, h8⟩
      rw [h4, E_one hT.wf]; cases E N f a <;> simp [app]
    · by_cases h2 : what = 2
      · subst h2
        clear z0 z1
        go_enter Tryz.func66, Tryz.ntmps66
        go_wp2_with fail
        refine (tnot_any hT hg (by omega) (by omega)).mono ?_
        rintro e w1 ⟨r, N', last', sz', rfl, h1, h2, h3, h4, h5, h6, h7, h8⟩
        go_wp2_with fail
        refine (tchoose_any h1 (hf.sub h2) h3 (hg.sub h2) (by omega) (by omega)).mono ?_
        rintro e w2 ⟨r2, N2, last2, sz2, rfl, k1, k2, k3, k4, k5, k6, k7, k8⟩
        go_wp2_with fail
        go_ret
        refine ⟨r2, N2, last2, sz2, rfl, k1, h2.trans k2, k3, fun a => ?_, by omega, by omega, by omega, h8.trans k8⟩
        rw [k4, h4, E_sub hT.wf h1.wf h2 hf, E_sub hT.wf h1.wf h2 hg]
        cases E N f a <;> cases E N g a <;> simp [app]
      · clear z0 z1
        have q0 : (what == 0) = false := by simp [h0]
        have q1 : (what == 1) = false := by simp [h1]
        have q2 : (what == 2) = false := by simp [h2]
        have HA : Hid (¬ what = 0 ∧ ¬ what = 1 ∧ ¬ what = 2) := ⟨h0, h1, h2⟩
        clear h0 h1 h2
        go_enter Tryz.func66, Tryz.ntmps66
        go_wp2_with fail
        refine (tchoose_any hT hf hg (ok_one _) (by omega) (by omega)).mono ?_
        rintro e w1 ⟨r, N', last', sz', rfl, h1, h2, h3, h4, h5, h6, h7, h8⟩
        go_wp2_with fail
        go_ret
        refine ⟨r, N', last', sz', rfl, h1, h2, h3, fun a => ?_, h5, by omega, by omega, h8⟩
        obtain ⟨n0, n1, n2⟩ := HA.out
        rw [h4, E_one hT.wf]; cases E N f a <;> simp [app, n0, n1, n2]

end Go.Proofs.YtmgjegokkbghlaaGreatDoor
