/- Release, Same, Value, Count, Nodes. -/
import Derived.Test.YtmgjegokkbghlaaGreatMakes
import Derived.Test.YtmgjegokkbghlaaGreatFill
import Derived.Test.YtmgjegokkbghlaaGreatPerm
namespace Go.Proofs.YtmgjegokkbghlaaGreat
open Go.RowKit Go.Maps Bdd
attribute [local go_sem ↓] Go.wp_at_zero Go.wp_at_succ

theorem one_cells (w : World) (f : Int) : ∀ j, j < [f].length → (w.alloc (.cells #[.int .i64 f] 3)).cell? ⟨w.heap.size, j, none⟩ = some (.int .i64 ([f].getD j 0)) := by
  intro j hj
  match j, hj with
  | 0, _ => simp
theorem one_fits {f : Int} (h : Fits f) : ∀ j, j < [f].length → Fits ([f].getD j 0) := by
  intro j hj
  match j, hj with
  | 0, _ => exact h

theorem St.keeps {w w' : World} {s hb t bn bm L nh sz : Nat} {od : Ord L} {lim given lb : Int} {V : Int → Option Fun} (h : St w s hb t bn bm od nh sz lim given V lb) (hk : Keeps [] w w') : St w' s hb t bn bm od nh sz lim given V lb := by
  obtain ⟨N, last, H, hst, r⟩ := h
  exact ⟨N, last, H, hst.keeps hk, r⟩

theorem rel_nh {w : World} {hb nh : Nat} {x f : Int} {H : Int → Option Int} {G : Value → Option Value} (hn : H x = some f) (hm : MapIs w Tryz.prog 3 hb (if (heldG H (.int .i64 x)).isSome then nh - 1 else nh) G) : MapIs w Tryz.prog 3 hb (nh - 1) G := by
  have e : heldG H (.int .i64 x) = some (.int .i64 f) := by simp only [heldG, hn]; rfl
  rw [e] at hm
  exact hm

set_option maxRecDepth 100000 in
set_option maxHeartbeats 1000000 in
theorem release_any {w : World} {s hb t bn bm L nh sz : Nat} {od : Ord L} {lim given lb : Int} {V : Int → Option Fun} (h : St w s hb t bn bm od nh sz lim given V lb) {f : Int} {F : Fun} (hf : V f = some F) :
    Calls Tryz.prog 16 #[.pointer (some ⟨s, 0, none⟩), .int .i64 f] w fun e w' => e = .returned (.int .i64 0) ∧ (∃ sz', St w' s hb t bn bm od (nh - 1) sz' lim given (delV V f) lb) ∧ Keeps [s, hb, t, bn, bm] w w' := by
  obtain ⟨N, last, H, hst, k1, k2, k3, k4, k5, k6⟩ := h
  obtain ⟨f0, e0, e1⟩ := St.has k2 hf
  have hfit : Fits f := by have := hst.hr f f0 e0; unfold Fits; omega
  have hk : Keeps [] w (w.alloc (.cells #[.int .i64 f] 3)) := (Keeps.refl _ _).alloc _
  have hst' := hst.keeps hk
  have HF : Hid (H f = some f0) := e0
  have HV : Hid (∀ x, V x = (H x).map (FV N od)) := k2
  clear k2 hf e0 e1
  go_enter Tryz.func16, Tryz.ntmps16
  go_wp2_with fail
  refine (find_any (b := w.heap.size) hst' [f] (by simp) (one_fits hfit) (one_cells w f) (by simp)).mono ?_
  rintro e w1 (⟨⟨j, hj, hn⟩, _⟩ | ⟨_, g, cap, rfl, hg, hcell, hk1⟩)
  · exfalso
    match j, hj with
    | 0, _ => simp [HF.out] at hn
  · have hst1 := hst'.keeps hk1
    have d3 := hst1.c3
    obtain ⟨w2, hr2, hm2, hg2⟩ := hst1.held.delete lawInt Tryz.underlying52 (keyInt hfit) 0
    have hst2 := hst1.del f hg2 (rel_nh HF.out hm2)
    clear hm2
    simp only [List.length_cons, List.length_nil, Nat.zero_add]
    go_wp2_with fail
    refine (forget_any hst2 (by omega)).mono ?_
    rintro e w3 ⟨sz3, K, rfl, hst3, hcl, hK1, hK2, hszb, hk3⟩
    go_wp2_with fail
    go_ret
    refine ⟨rfl, ⟨sz3, _, _, _, hst3, trim_keep hcl hK1 hK2, ?_, k3, ?_, hszb, by omega⟩, ?_⟩
    · intro x
      have := E_trim (od := od) hst1.tab.wf hst1.tab.wf (Sub.refl N) hcl hst2.ok hK2 x
      rw [← this]
      unfold delV
      split
      · rfl
      · exact HV.out x
    · intro x hx
      unfold delV at hx
      split at hx
      · cases hx
      · exact k4 x hx
    · exact (((hk.trans hk1).mono (by simp)).grown hg2 (by simp)).trans (hk3.mono (by simp))

set_option maxRecDepth 100000 in
set_option maxHeartbeats 1000000 in
theorem release_bad {w : World} {s hb t bn bm L nh sz : Nat} {od : Ord L} {lim given lb : Int} {V : Int → Option Fun} (h : St w s hb t bn bm od nh sz lim given V lb) {f : Int} (hfit : Fits f) (hf : V f = none) :
    Calls Tryz.prog 16 #[.pointer (some ⟨s, 0, none⟩), .int .i64 f] w fun e w' => e = .returned (.int .i64 2) ∧ Keeps [] w w' := by
  obtain ⟨N, last, H, hst, k1, k2, k3, k4, k5, k6⟩ := h
  have hk : Keeps [] w (w.alloc (.cells #[.int .i64 f] 3)) := (Keeps.refl _ _).alloc _
  have hst' := hst.keeps hk
  have HF : Hid (H f = none) := St.hasnt k2 hf
  clear k2 hf
  go_enter Tryz.func16, Tryz.ntmps16
  go_wp2_with fail
  refine (find_any (b := w.heap.size) hst' [f] (by simp) (one_fits hfit) (one_cells w f) (by simp)).mono ?_
  rintro e w1 (⟨_, rfl, hk1⟩ | ⟨hall, _⟩)
  · go_wp2_with fail
    go_ret
    exact ⟨rfl, hk.trans hk1⟩
  · have := hall 0 (by simp)
    simp [HF.out] at this

set_option maxRecDepth 100000 in
set_option maxHeartbeats 1000000 in
theorem count_bad {w : World} {s hb t bn bm L nh sz : Nat} {od : Ord L} {lim given lb : Int} {V : Int → Option Fun} (h : St w s hb t bn bm od nh sz lim given V lb) {f : Int} (hfit : Fits f) (hf : V f = none) :
    Calls Tryz.prog 55 #[.pointer (some ⟨s, 0, none⟩), .int .i64 f] w fun e w' => e = .returned (.tuple #[.int .i64 0, .int .i64 2]) ∧ Keeps [] w w' := by
  obtain ⟨N, last, H, hst, k1, k2, k3, k4, k5, k6⟩ := h
  have hk : Keeps [] w (w.alloc (.cells #[.int .i64 f] 3)) := (Keeps.refl _ _).alloc _
  have hst' := hst.keeps hk
  have HF : Hid (H f = none) := St.hasnt k2 hf
  clear k2 hf
  go_enter Tryz.func55, Tryz.ntmps55
  go_wp2_with fail
  refine (find_any (b := w.heap.size) hst' [f] (by simp) (one_fits hfit) (one_cells w f) (by simp)).mono ?_
  rintro e w1 (⟨_, rfl, hk1⟩ | ⟨hall, _⟩)
  · go_wp2_with fail
    go_ret2
    exact ⟨rfl, hk.trans hk1⟩
  · have := hall 0 (by simp)
    simp [HF.out] at this

set_option maxRecDepth 100000 in
set_option maxHeartbeats 1000000 in
theorem countc_any {w : World} {s hb t bn bm L nh sz : Nat} {od : Ord L} {lim given lb : Int} {V : Int → Option Fun} (h : St w s hb t bn bm od nh sz lim given V lb) {f : Int} {F : Fun} (hf : V f = some F) :
    Calls Tryz.prog 55 #[.pointer (some ⟨s, 0, none⟩), .int .i64 f] w fun e w' => e = .returned (.tuple #[.int .i64 (cnt F L 0 (fun _ => false)), .int .i64 0]) ∧ Keeps [] w w' := by
  obtain ⟨N, last, H, hst, k1, k2, k3, k4, k5, k6⟩ := h
  obtain ⟨f0, e0, e1⟩ := St.has k2 hf
  have hfit : Fits f := by have := hst.hr f f0 e0; unfold Fits; omega
  have hk : Keeps [] w (w.alloc (.cells #[.int .i64 f] 3)) := (Keeps.refl _ _).alloc _
  have hst' := hst.keeps hk
  have HF : Hid (H f = some f0) := e0
  have HE : Hid (FV N od f0 = F) := e1
  have hok := hst.ok f f0 e0
  clear k2 hf e0 e1
  go_enter Tryz.func55, Tryz.ntmps55
  go_wp2_with fail
  refine (find_any (b := w.heap.size) hst' [f] (by simp) (one_fits hfit) (one_cells w f) (by simp)).mono ?_
  rintro e w1 (⟨⟨j, hj, hn⟩, _⟩ | ⟨_, g, cap, rfl, hg, hcell, hk1⟩)
  · exfalso
    match j, hj with
    | 0, _ => simp [HF.out] at hn
  · have hc0 := hcell 0 (by simp)
    simp [HF.out] at hc0
    have hst1 := hst'.keeps hk1
    have d0 := hst1.c2
    have d4 := hst1.c4
    simp only [List.length_cons, List.length_nil, Nat.zero_add]
    go_wp2_with fail
    go_region_held3 (fun w' => w'.cell? ⟨g, 0, none⟩ = some (.int .i64 f0) ∧ w'.cell? ⟨s, 2, none⟩ = some (.slice (some ⟨od.blk, 0, none⟩) L od.cap) ∧ w'.cell? ⟨s, 4, none⟩ = some (.pointer (some ⟨t, 0, none⟩)))
      (first | exact ⟨hc0, d0, d4⟩ | exact ⟨hk3.cell hc0 (by simp), hk3.cell d0 (by simp), hk3.cell d4 (by simp)⟩ | assumption)
      (first
        | (go_at_call 103; refine (tcount_any (hst1.keeps ((Keeps.refl [] w1).drew)).tab hok).mono ?_; rintro e w3 ⟨rfl, hk3⟩))
    go_wp2_with fail
    go_ret2
    exact ⟨by rw [← HE.out, cnt_FV hst.tab.wf hok]; rfl, ((hk.trans hk1).drew).trans hk3⟩

set_option maxRecDepth 100000 in
set_option maxHeartbeats 2000000 in
theorem valuec_any {w : World} {s hb t bn bm L nh sz vb vo cap : Nat} {od : Ord L} {lim given lb : Int} {V : Int → Option Fun} (h : St w s hb t bn bm od nh sz lim given V lb) {f : Int} {F : Fun} (hf : V f = some F) {a : Int → Bool} (hv : Truths w vb vo L a) :
    Calls Tryz.prog 51 #[.pointer (some ⟨s, 0, none⟩), .int .i64 f, .slice (some ⟨vb, vo, none⟩) L cap] w fun e w' => e = .returned (.tuple #[.bool (F a), .int .i64 0]) ∧ Keeps [] w w' := by
  obtain ⟨N, last, H, hst, k1, k2, k3, k4, k5, k6⟩ := h
  obtain ⟨f0, e0, e1⟩ := St.has k2 hf
  have hfit : Fits f := by have := hst.hr f f0 e0; unfold Fits; omega
  have hL8 : L ≤ 8 := by have := hst.tab.wf.tops; omega
  obtain ⟨i4, hi4, hz0, hz1, hz2⟩ := info_parts info4
  have HMB : Hid (∀ w : World, (Instr.makeSlice 32 (.int .i64 (L : Int)) (.int .i64 (L : Int))).run Tryz.prog w = .ok (.slice (some ⟨w.heap.size, 0, none⟩) L L) (w.alloc (.cells (fillV (.bool false) L) 4))) := make_run Tryz.underlying32 hi4 hz0 hz1 hz2 (by omega) rfl hL8
  have hk : Keeps [] w (w.alloc (.cells #[.int .i64 f] 3)) := (Keeps.refl _ _).alloc _
  have hst' := hst.keeps hk
  have HF : Hid (H f = some f0) := e0
  have HE : Hid (FV N od f0 = F) := e1
  have hok := hst.ok f f0 e0
  have HTV : Hid (Truths w vb vo L a) := hv
  have hvl : vb < w.heap.size := cell_lt (p := ⟨vb, vo + 0, none⟩) (hv 0 hst.pos)
  clear k2 hf e0 e1 hi4 hz0 hz1 hz2 hv
  go_enter Tryz.func51, Tryz.ntmps51
  go_wp2_with fail
  refine (find_any (b := w.heap.size) hst' [f] (by simp) (one_fits hfit) (one_cells w f) (by simp)).mono ?_
  rintro e w1 (⟨⟨j, hj, hn⟩, _⟩ | ⟨_, g, cap, rfl, hg, hcell, hk1⟩)
  · exfalso
    match j, hj with
    | 0, _ => simp [HF.out] at hn
  · have hc0 := hcell 0 (by simp)
    simp [HF.out] at hc0
    have hst1 := hst'.keeps hk1
    have hkw := hk.trans hk1
    have d2 := hst1.c2
    have lg : g < w1.heap.size := cell_lt (p := ⟨g, 0, none⟩) hc0
    have l0 : s < w1.heap.size := cell_lt (p := ⟨s, 2, none⟩) d2
    simp only [List.length_cons, List.length_nil, Nat.zero_add]
    go_wp2_with (first
      | (at_make; refine wpList_make_at rfl _ _ 32 rfl (.int .i64 (L : Int)) (.int .i64 (L : Int)) _ rfl rfl (HMB.out _) ?_)
      | fail)
    obtain ⟨Y, hY⟩ : ∃ Y, Y = w1.alloc (Obj.cells (fillV (Value.bool false) L) 4) := ⟨_, rfl⟩
    rw [← hY]
    have hkY : Keeps [] w1 Y := by rw [hY]; exact (Keeps.refl _ _).alloc _
    have b2 : Bools Y w1.heap.size L (fun i => if i < 0 then a (od.at_ (i : Int)) else false) := fun k hk => by
      rw [hY]
      exact ⟨cell_new w1 _ _ rfl (fillV_get _ hk), World.frozen?_alloc_at _ _ _ _ rfl⟩
    have hlY : w1.heap.size < Y.heap.size := by rw [hY]; simp
    clear hY
    have HB2 : Hid (Bools Y w1.heap.size L (fun i => if i < 0 then a (od.at_ (i : Int)) else false)) := b2
    clear b2
    go_loopw [42] (fun i wr => ∃ j : Nat, j ≤ L ∧ i = .int .i64 j ∧ Bools wr w1.heap.size L (fun i => if i < j then a (od.at_ (i : Int)) else false) ∧ Keeps [w1.heap.size] Y wr) (fun i _ => L - (intOf i).toNat)
    case atStart => exact ⟨0, by omega, rfl, HB2.out, Keeps.refl _ _⟩
    case round =>
      obtain ⟨j, hj, rfl, hm, hkr⟩ := hrel
      have hst3 := (hst1.keeps hkY).keepsB hkr (fun x hx => by have := hst1.lts x hx; simp; omega)
      by_cases hlt : j < L
      · have hj0 : (0 : Int) ≤ (j : Int) := by omega
        have hj1 : (j : Int) < (L : Int) := by omega
        have p1 := (hm j hlt).1
        have p2 := (hm j hlt).2
        have p3 := (hst3.ord j hlt).1
        obtain ⟨x0, x1, _⟩ := od.r1 j hj0 hj1
        obtain ⟨x, hx⟩ := Int.eq_ofNat_of_zero_le x0
        have p4 := hkr.cell (hkY.cell (hkw.cell (HTV.out x (by omega)) (by simp)) (by simp)) (by simp; have := hkw.size; omega)
        rw [hx] at p3 x0 x1
        have HX : Hid (od.at_ (j : Int) = (x : Int)) := hx
        clear hx
        go_wp2_with fail
        go_roundw
        case rel =>
          refine ⟨j + 1, by omega, by go_num, hm.set _ ?_ (fun i _ hi => ?_), hkr.setCell _ (Or.inl (by simp)) _⟩
          · rw [if_pos (by omega), HX.out]
          · by_cases hij : i < j
            · rw [if_pos hij, if_pos (by omega)]
            · rw [if_neg hij, if_neg (by omega)]
        case measure => simp [intOf]; omega
      · have e : j = L := by omega
        subst e
        have d4 := hst3.c4
        have hc0' := hkr.cell (hkY.cell hc0 (by simp)) (by simp; omega)
        have hv1 : Truths wr.drew w1.heap.size 0 j (fun k => a (od.at_ k)) := fun i hi => by have := (hm i hi).1; simp only [hi, if_true] at this; rw [Nat.zero_add]; exact this
        have hkW : Keeps [] w wr := (((hkw.trans hkY).mono (by simp)).trans hkr).strike (by simp; have := hkw.size; omega)
        clear hm
        go_wp2_with fail
        go_region_held3 (fun w' => w'.cell? ⟨g, 0, none⟩ = some (.int .i64 f0) ∧ w'.cell? ⟨s, 4, none⟩ = some (.pointer (some ⟨t, 0, none⟩)))
          (first | exact ⟨hc0', d4⟩ | exact ⟨hk3.cell hc0' (by simp), hk3.cell d4 (by simp)⟩ | assumption)
          (first
            | (go_at_call 102; refine (tvalue_any (hst3.keeps ((Keeps.refl [] wr).drew)).tab hok hv1).mono ?_; rintro e w3 ⟨rfl, hk3⟩))
        go_wp2_with fail
        go_ret2
        exact ⟨by rw [← HE.out]; rfl, (hkW.drew).trans hk3⟩

set_option maxRecDepth 100000 in
set_option maxHeartbeats 1000000 in
theorem same_any {w : World} {s hb t bn bm L nh sz : Nat} {od : Ord L} {lim given lb : Int} {V : Int → Option Fun} (h : St w s hb t bn bm od nh sz lim given V lb) {f g : Int} {F G : Fun} (hf : V f = some F) (hg : V g = some G) :
    Calls Tryz.prog 48 #[.pointer (some ⟨s, 0, none⟩), .int .i64 f, .int .i64 g] w fun e w' => ∃ b : Bool, e = .returned (.tuple #[.bool b, .int .i64 0]) ∧ (b = true ↔ ∀ a, F a = G a) ∧ Keeps [] w w' := by
  obtain ⟨N, last, H, hst, k1, k2, k3, k4, k5, k6⟩ := h
  obtain ⟨f0, e0, e1⟩ := St.has k2 hf
  obtain ⟨g0, e2, e3⟩ := St.has k2 hg
  have hfit : Fits f := by have := hst.hr f f0 e0; unfold Fits; omega
  have hfitg : Fits g := by have := hst.hr g g0 e2; unfold Fits; omega
  have hk : Keeps [] w (w.alloc (.cells #[.int .i64 f, .int .i64 g] 3)) := (Keeps.refl _ _).alloc _
  have hst' := hst.keeps hk
  have HF : Hid (H f = some f0) := e0
  have HG : Hid (H g = some g0) := e2
  have HC : Hid ((f0 == g0) = true ↔ ∀ a, F a = G a) := by
    show (f0 == g0) = true ↔ ∀ a, F a = G a
    rw [← e1, ← e3, ← canon_FV hst.tab.wf (hst.ok f f0 e0) (hst.ok g g0 e2)]
    simp
  have hcells : ∀ j, j < [f, g].length → (w.alloc (.cells #[.int .i64 f, .int .i64 g] 3)).cell? ⟨w.heap.size, j, none⟩ = some (.int .i64 ([f, g].getD j 0)) := by
    intro j hj
    rw [World.cell?_alloc_at _ _ _ _ rfl]
    match j, hj with
    | 0, _ => rfl
    | 1, _ => rfl
  have hfits : ∀ j, j < [f, g].length → Fits ([f, g].getD j 0) := by
    intro j hj
    match j, hj with
    | 0, _ => exact hfit
    | 1, _ => exact hfitg
  clear k2 hf hg e0 e1 e2 e3
  go_enter Tryz.func48, Tryz.ntmps48
  go_wp2_with fail
  refine (find_any (b := w.heap.size) hst' [f, g] (by simp) hfits hcells (by simp)).mono ?_
  rintro e w1 (⟨⟨j, hj, hn⟩, _⟩ | ⟨_, gg, cap, rfl, hgg, hcell, hk1⟩)
  · exfalso
    match j, hj with
    | 0, _ => simp [HF.out] at hn
    | 1, _ => simp [HG.out] at hn
  · have hc0 := hcell 0 (by simp)
    have hc1 := hcell 1 (by simp)
    simp [HF.out] at hc0
    simp [HG.out] at hc1
    simp only [List.length_cons, List.length_nil, Nat.zero_add, Nat.reduceAdd]
    clear hcell
    go_wp2_with fail
    go_quiet (fail)
    go_wp2_with fail
    go_ret2
    exact ⟨_, rfl, HC.out, (hk.trans hk1).drewN _⟩

end Go.Proofs.YtmgjegokkbghlaaGreat
