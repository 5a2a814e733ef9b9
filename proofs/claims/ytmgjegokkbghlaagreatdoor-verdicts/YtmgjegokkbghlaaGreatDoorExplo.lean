/- explore: the states, level by level. -/
import Derived.Test.YtmgjegokkbghlaaGreatDoorMch
import Derived.Deep.AppendLies
import Derived.Deep.RegionLaw
import Derived.WalkSmall
import Derived.Deep.RegionWith
namespace Go.Proofs.YtmgjegokkbghlaaGreatDoor
open Go.RowKit Go.Maps Bdd Circ Gram Runs
set_option linter.unusedVariables false
attribute [local go_sem ↓] Go.wp_at_zero Go.wp_at_succ

theorem infoFnX : (Tryz.prog.info? 88).map (fun i => (i.zero, i.size, i.bytes)) = some (some (.int .i64 0), 1, 8) := by kernel_rfl
/-- what the outer loop keeps -/
def ExInv (w wr : World) (ls : List Ln) (m t bn bm K : Nat) (rf rs0 rb : Int) (k : Nat) (a : Option Addr) (c : Nat) (r s : Int) : Prop :=
  ∃ (rs : List Int) (N' : Tab) (KK : Nat) (R F : Fun), rs.length = k ∧ wr.ownsRow (w.heap.size + 1) 88 1 (.slice a k c) k (cellsF rs) ∧ Mch wr m t bn bm KK N' ls rf rs0 rb ∧ KK ≤ K + k * 6000000 ∧ FunS N' ls rs ∧ Val N' r R ∧ SetF (latches ls).length R (bef (sysOf ls) k) ∧ Val N' s F ∧ SetF (latches ls).length F (lev (sysOf ls) k) ∧ (∀ j, j < k → ¬ BadAt (sysOf ls) j) ∧ (wr.cell? ⟨w.heap.size, 0, none⟩ = some (.int .i64 0) ∧ wr.cell? ⟨w.heap.size, 1, none⟩ = some (.int .i64 0) ∧ ∀ q, wr.frozen? ⟨w.heap.size, q, none⟩ = false) ∧ w.heap.size < wr.heap.size ∧ Keeps [t, bn, bm] w wr
/-- levels in memory -/
def LevAt (w : World) (base : Nat) (a : Option Addr) (rs : List Int) : Prop := ∀ j (hj : j < rs.length), ∃ g, a = some ⟨g, 0, none⟩ ∧ base ≤ g ∧ g < w.heap.size ∧ w.cell? ⟨g, j, none⟩ = some (.int .i64 rs[j])
theorem LevAt.keeps {w w' : World} {B : Nat} {a : Option Addr} {rs : List Int} {S : List Nat} (h : LevAt w B a rs) (hk : Keeps S w w') (hS : ∀ x ∈ S, x < B) : LevAt w' B a rs := fun j hj => by
  obtain ⟨g, h1, h2, h3, h4⟩ := h j hj
  exact ⟨g, h1, h2, Nat.lt_of_lt_of_le h3 hk.size, hk.cell h4 (fun hin => by have := hS g hin; omega)⟩
theorem LevAt.low {w : World} {B B' : Nat} {a : Option Addr} {rs : List Int} (h : LevAt w B a rs) (hB : B' ≤ B) : LevAt w B' a rs := fun j hj => by
  obtain ⟨g, h1, h2, h3, h4⟩ := h j hj
  exact ⟨g, h1, by omega, h3, h4⟩
theorem LevAt.ofRow {w : World} {B k c : Nat} {a : Option Addr} {rs : List Int} (h : w.ownsRow B 88 1 (.slice a k c) k (cellsF rs)) (hl : rs.length = k) : LevAt w B a rs := fun j hj => by
  obtain ⟨k, rfl⟩ : ∃ k', k = k' + 1 := ⟨k - 1, by omega⟩
  obtain ⟨g, cap', hgv⟩ := own_slice h
  obtain ⟨rfl, rfl⟩ : a = some ⟨g, 0, none⟩ ∧ c = cap' := by simpa using hgv
  refine ⟨g, rfl, (h.lt g rfl).1, (h.lt g rfl).2, ?_⟩
  have := h.cellAt j (by omega)
  rw [this]
  simp [cellsF, hj]
theorem box_two {w : World} {b : Nat} {u0 u1 : Value} (h0 : w.cell? ⟨b, 0, none⟩ = some u0) (h1 : w.cell? ⟨b, 1, none⟩ = some u1) (v0 v1 : Value) : ((w.setCell ⟨b, 0, none⟩ v0).setCell ⟨b, 1, none⟩ v1).cell? ⟨b, 0, none⟩ = some v0 ∧ ((w.setCell ⟨b, 0, none⟩ v0).setCell ⟨b, 1, none⟩ v1).cell? ⟨b, 1, none⟩ = some v1 := by
  constructor
  · rw [World.cell?_setCell_other _ _ _ _ (by simp)]; exact World.cell?_setCell_same _ _ _ h0
  · have h2 : (w.setCell ⟨b, 0, none⟩ v0).cell? ⟨b, 1, none⟩ = some u1 := by rw [World.cell?_setCell_other _ _ _ _ (by simp)]; exact h1
    exact World.cell?_setCell_same _ _ _ h2
/-- what explore answers -/
def ExpIs (w w' : World) (ls : List Ln) (m t bn bm K : Nat) (rf rs0 rb : Int) (e : Ending) : Prop :=
  ∃ (rs : List Int) (N' : Tab) (KK : Nat) (a : Option Addr) (c : Nat), Mch w' m t bn bm KK N' ls rf rs0 rb ∧ KK ≤ K + 120000000 ∧ FunS N' ls rs ∧ LevAt w' w.heap.size a rs ∧ rs.length ≤ 16 ∧ Keeps [t, bn, bm] w w' ∧
    ((∃ k s i : Nat, rs.length = k + 1 ∧ lev (sysOf ls) k s ∧ i < (sysOf ls).I ∧ (sysOf ls).bad s i = true ∧ (∀ j, j < k → ¬ BadAt (sysOf ls) j) ∧ e = .returned (.tuple #[.slice a rs.length c, .agg #[.int .i64 (s : Int), .int .i64 (i : Int)], .bool true])) ∨
     ((∀ s, ¬ lev (sysOf ls) rs.length s) ∧ (∀ j, j < rs.length → ¬ BadAt (sysOf ls) j) ∧ e = .returned (.tuple #[.slice a rs.length c, .agg #[.int .i64 0, .int .i64 0], .bool false])))

set_option maxRecDepth 100000 in
set_option maxHeartbeats 4000000 in
theorem explore_any {w : World} {m t bn bm K : Nat} {N : Tab} {ls : List Ln} {rf rs0 rb : Int} (hg : Good ls) (h : Mch w m t bn bm K N ls rf rs0 rb) (hK : K ≤ 1000000000) :
    Calls Tryz.prog 40 #[.pointer (some ⟨m, 0, none⟩)] w fun e w' => ExpIs w w' ls m t bn bm K rf rs0 rb e := by
  obtain ⟨i0, hi0, hz0, hz1, hz2⟩ := info_parts infoFnX
  have hml : 2000000 < maxLen := by decide
  have hbig : 10000000000 ≤ Big := by decide
  obtain ⟨b1, b2, b3⟩ := h.hd.blocks
  have hmw := h.hd.lt
  have hL4 := hg.nL
  have hI3 := hg.nI
  have c3 := h.c3
  have HM := hid_intro h
  have HG := hid_intro hg
  clear h hg
  go_enter Tryz.func40, Tryz.ntmps40
  go_wp2_with fail
  have c3E : (w.alloc (.cells #[.int .i64 0, .int .i64 0] 103)).cell? ⟨m, 3, none⟩ = some (.int .i64 rf) := ((Keeps.refl [] w).alloc _).cell c3 (by simp)
  go_step3
  go_wp2_with fail
  go_step3
  go_wp2_with fail
  have hkE : Keeps [] w (w.alloc (.cells #[.int .i64 0, .int .i64 0] 103)) := (Keeps.refl _ _).alloc _
  go_loopw [2, 4, 5, 6] (fun y2 y4 y5 y6 wr => ∃ (k : Nat) (a : Option Addr) (c : Nat) (r s : Int), k ≤ 16 ∧ y2 = .slice a k c ∧ y4 = .bool false ∧ y5 = .int .i64 r ∧ y6 = .int .i64 s ∧ ExInv w wr ls m t bn bm K rf rs0 rb k a c r s) (fun y2 _ _ _ _ => 17 - lenOf y2)
  case atStart =>
    have hm := HM.out.keeps hkE (by simp) (by simp) (by simp) (by simp)
    refine ⟨0, none, 0, 0, rf, by omega, rfl, rfl, rfl, rfl, [], N, K, fun _ => false, _, rfl, World.ownsRow_nil _ _ _ _, hm, by omega, fun j hj => by simp at hj, val_zero hm.hd, bef_first ls, hm.vf, lev_first, fun j hj => by omega, ⟨?_, ?_, fun q => ?_⟩, by simp, hkE.mono (by simp)⟩
    · rw [World.cell?_alloc_at _ _ _ _ rfl]; rfl
    · rw [World.cell?_alloc_at _ _ _ _ rfl]; rfl
    · rw [World.frozen?_alloc_at _ _ _ _ rfl]
  case round =>
    clear c3E hkE
    obtain ⟨k, a, c, r, s, hk16, rfl, rfl, rfl, rfl, rs, N', KK, R, F, hlen, hrow, hm, hKK, hfs, hvR, hR, hvF, hF, hnb, ⟨e0, e1, hfz⟩, hsz, hk⟩ := hrel
    have HRow := hid_intro hrow
    have HMc := hid_intro hm
    have HFs := hid_intro hfs
    have HVR := hid_intro hvR
    have HR := hid_intro hR
    have HVF := hid_intro hvF
    have HF := hid_intro hF
    have HNB := hid_intro hnb
    have HLen := hid_intro hlen
    have hzi := hm.hd.none_iff hvF hF
    have c2 := hm.hd.c2
    have hbw : w.heap.size ≤ wr.heap.size := hk.size
    clear hrow hm hfs hvR hR hvF hF hnb hlen
    by_cases hs : s = 0
    · subst hs
      have hno : ∀ x, ¬ lev (sysOf ls) k x := fun x hx => hzi.1 rfl x (by rw [← sys_S]; exact lev_lt hx) hx
      have HNO := hid_intro hno
      have f0 := hfz 0
      have f1 := hfz 1
      clear hzi hno hfz c2
      go_wp2_with fail
      have d0 : wr.drew.cell? ⟨w.heap.size, 0, none⟩ = some (.int .i64 0) := e0
      have d1 : wr.drew.cell? ⟨w.heap.size, 1, none⟩ = some (.int .i64 0) := e1
      have d2 : wr.drew.frozen? ⟨w.heap.size, 0, none⟩ = false := f0
      have d3 : wr.drew.frozen? ⟨w.heap.size, 1, none⟩ = false := f1
      go_region
      all_goals
        go_wp2_with fail
        rw [Exit.noGoto_ret]
        obtain ⟨y0, y1⟩ := box_two e0 e1 (.int .i64 0) (.int .i64 0)
        have hkW : Keeps [w.heap.size] wr ((wr.setCell ⟨w.heap.size, 0, none⟩ (.int .i64 0)).setCell ⟨w.heap.size, 1, none⟩ (.int .i64 0)).drew := (((Keeps.refl _ _).setCell _ (Or.inl (by simp)) _).setCell _ (Or.inl (by simp)) _).drew
        refine bodyPost_ret (v := .tuple #[.slice a k c, .agg #[.int .i64 0, .int .i64 0], .bool false]) (by simp [results, Tryz.results40, go_sem, y0, y1]; try rfl) rfl ?_
        have hl := HLen.out
        refine ⟨rs, N', KK, a, c, HMc.out.keeps hkW (by simp; omega) (by simp; omega) (by simp; omega) (by simp; omega), by omega, HFs.out, (((LevAt.ofRow HRow.out hl).keeps hkW (by simp)).low (by omega)), by omega, (((hk.setCell _ (Or.inr (Nat.le_refl _)) _).setCell _ (Or.inr (Nat.le_refl _)) _).drew), Or.inr ⟨by rw [hl]; exact HNO.out, by rw [hl]; exact HNB.out, by rw [hl]⟩⟩
    · have hk15 : k < 16 := by
        have hex : ¬ ∀ x, x < 2 ^ (latches ls).length → ¬ lev (sysOf ls) k x := fun hx => hs (hzi.2 hx)
        have h2 := two_pow_le hL4
        rw [Classical.not_forall] at hex
        obtain ⟨x, hx⟩ := hex
        have hx : lev (sysOf ls) k x := Classical.byContradiction fun hn => hx fun _ => hn
        have := lev_few hx
        rw [sys_S] at this
        omega
      have hsb : (s == 0) = false := by simpa using hs
      clear hzi
      go_wp2_with (first
        | (at_builtin; refine wpList_append_own_at _ rfl _ _ 101 rfl (w.heap.size + 1) 88 i0 (.int .i64 0) 1 8 Tryz.underlying101 hi0 hz0 hz1 hz2 rfl (by decide) _ k (cellsF rs) rfl (HRow.out.alloc _) ⟨wr.heap.size, 0, none⟩ 1 1 [.int .i64 s] rfl rfl (cells_new _ _ _) (by simp [Value.oneCell']) (by omega) (by omega) (by simp; omega) ?_; intro v' w1 hown' hgrow hnil hloc; obtain ⟨g', cap', rfl⟩ := own_slice hown'; have HOW := hid_intro hown'; have HGR := hid_intro hgrow; have c2p := (push_keeps HRow.out hgrow).1.cell c2 ((push_keeps HRow.out hgrow).2 m (by omega)); clear hown' hgrow hloc hnil)
        | fail)
      obtain ⟨P, hP⟩ : ∃ P : Nat, P = 2 ^ (named 1 ls).length := ⟨_, rfl⟩
      have hP8 : P ≤ 8 := by rw [hP]; exact two_pow_le hI3
      rw [wrap_pow _ (by omega), ← hP]
      have HP := hid_intro hP
      obtain ⟨hk1, hn1⟩ := push_keeps HRow.out HGR.out
      have hm1 := HMc.out.keeps hk1 (hn1 m (by omega)) (hn1 t (by omega)) (hn1 bn (by omega)) (hn1 bm (by omega))
      have hkw := push_old HRow.out HGR.out (by omega) hk
      have HM1 := hid_intro hm1
      have E0 := hid_intro (hk1.cell e0 (hn1 _ (by simp)))
      have E1 := hid_intro (hk1.cell e1 (hn1 _ (by simp)))
      have EF := hid_intro (fun q => (hk1.frozen (p := ⟨w.heap.size, q, none⟩) hsz (hn1 _ (by simp))).trans (hfz q))
      have hsz1 : w.heap.size < w1.heap.size := Nat.lt_of_lt_of_le hsz hk1.size
      clear hP hm1 hk1 hn1 e0 e1 hfz c2 c2p HRow HGR HMc hsz hbw hk
      go_loopw [4, 25] (fun y4 x wq => ∃ (i K2 : Nat) (N2 : Tab), i ≤ P ∧ y4 = .bool false ∧ x = .int .i64 i ∧ Mch wq m t bn bm K2 N2 ls rf rs0 rb ∧ K2 ≤ KK + i * 20000 ∧ Ext N' N2 ∧ (∀ x i', lev (sysOf ls) k x → i' < i → (sysOf ls).bad x i' = false) ∧ Keeps [t, bn, bm] w1 wq) (fun _ x _ => P - (intOf x).toNat)
      case atStart => exact ⟨0, KK, N', by omega, rfl, rfl, HM1.out, by omega, Ext.refl _, fun _ _ _ h => by omega, Keeps.refl _ _⟩
      case round =>
        clear HM1
        obtain ⟨i, K2, N2, hi, rfl, rfl, hm, hK2, hext, hnb, hkq⟩ := hrel
        by_cases hiP : i < P
        · have hi0 : (0 : Int) ≤ (i : Int) := by omega
          have hi1 : (i : Int) < (P : Int) := by omega
          have c5 := hm.c5
          have HMq := hid_intro hm
          have HExt := hid_intro hext
          have HNb := hid_intro hnb
          have HC1 := hid_intro (given_any hm.hd hm.vb (i := i) (by omega) (by omega))
          clear hm hext hnb
          go_wp2_with fail
          refine Calls.mono HC1.out ?_
          rintro e w2 ⟨r2, N3, rfl, g1, g2, g3, g4⟩
          have G1 := hid_intro g1
          have G2 := hid_intro g2
          have G3 := hid_intro g3
          have HC2 := hid_intro (and_any g1 (g2 _ _ (HExt.out _ _ HVF.out)) g3 (by omega))
          clear g1 g2 g3 HC1
          go_wp2_with fail
          refine Calls.mono HC2.out ?_
          rintro e w3 ⟨r3, N4, rfl, g1, g2, g3, g5⟩
          have hset := HF.out.and (bad_set HG.out i)
          have A1 := hid_intro g1
          have A2 := hid_intro g2
          have A3 := hid_intro g3
          have HSet := hid_intro hset
          have HC3 := hid_intro (some_any g1 g3 hset.near.low)
          clear g1 g2 g3 HC2 hset
          go_wp2_with fail
          refine Calls.mono HC3.out ?_
          rintro e w4 ⟨hsome, hk4⟩
          clear HC3
          have hkk : Keeps [t, bn, bm] w1 w4 := ((hkq.trans g4).trans g5).trans (hk4.mono (by simp))
          have hm4 : Mch w4 m t bn bm (K2 + 10000 + 4096) N4 ls rf rs0 rb := ((HMq.out.step G1.out G2.out g4).step A1.out A2.out g5).keeps hk4 (by simp) (by simp) (by simp) (by simp)
          have HM4 := hid_intro hm4
          rcases hsome with ⟨h0, rfl⟩ | ⟨h0, x, hx, hFx, rfl⟩
          · have hnx : ∀ x, lev (sysOf ls) k x → (sysOf ls).bad x i = false := fun x hx => by
              have := (A1.out.none_iff A3.out HSet.out).1 h0 x (by rw [← sys_S]; exact lev_lt hx)
              simpa [hx] using this
            have HNx := hid_intro hnx
            clear hnx hm4
            go_wp2_with fail
            refine ⟨⟨i + 1, _, _, by omega, rfl, by go_num, HM4.out, by omega, (HExt.out.trans G2.out).trans A2.out, fun x i' hx hi' => ?_, hkk⟩, by simp [intOf]; omega⟩
            by_cases e : i' = i
            · subst e; exact HNx.out x hx
            · exact HNb.out x i' hx (by omega)
          · have hfound := (HSet.out.mem x hx).1 hFx
            have HFo := hid_intro hfound
            have e0 := hkk.cell E0.out (by simp; omega)
            have e1 := hkk.cell E1.out (by simp; omega)
            have f0 : w4.frozen? ⟨w.heap.size, 0, none⟩ = false := by rw [hkk.frozen hsz1 (by simp; omega)]; exact EF.out 0
            have f1 : w4.frozen? ⟨w.heap.size, 1, none⟩ = false := by rw [hkk.frozen hsz1 (by simp; omega)]; exact EF.out 1
            clear hfound hFx hm4
            go_wp2_with fail
            obtain ⟨y0, y1⟩ := box_two e0 e1 (.int .i64 (x : Int)) (.int .i64 (i : Int))
            have hkY : Keeps [w.heap.size] w4 ((w4.setCell ⟨w.heap.size, 0, none⟩ (.int .i64 (x : Int))).setCell ⟨w.heap.size, 1, none⟩ (.int .i64 (i : Int))) := (((Keeps.refl _ _).setCell _ (Or.inl (by simp)) _).setCell _ (Or.inl (by simp)) _)
            have hf : ∀ q, ((w4.setCell ⟨w.heap.size, 0, none⟩ (.int .i64 (x : Int))).setCell ⟨w.heap.size, 1, none⟩ (.int .i64 (i : Int))).frozen? ⟨w.heap.size, q, none⟩ = false := fun q => by
              rw [World.frozen?_setCell, World.frozen?_setCell, hkk.frozen hsz1 (by simp; omega)]; exact EF.out q
            obtain ⟨wy, hwy⟩ : ∃ wy, wy = ((w4.setCell ⟨w.heap.size, 0, none⟩ (.int .i64 (x : Int))).setCell ⟨w.heap.size, 1, none⟩ (.int .i64 (i : Int))) := ⟨_, rfl⟩
            rw [← hwy] at y0 y1 hkY hf ⊢
            clear hwy e0 e1 f0 f1
            have d0 : wy.drew.cell? ⟨w.heap.size, 0, none⟩ = some (.int .i64 (x : Int)) := y0
            have d1 : wy.drew.cell? ⟨w.heap.size, 1, none⟩ = some (.int .i64 (i : Int)) := y1
            have d2 : wy.drew.frozen? ⟨w.heap.size, 0, none⟩ = false := hf 0
            have d3 : wy.drew.frozen? ⟨w.heap.size, 1, none⟩ = false := hf 1
            go_region
            all_goals
              go_wp2_with fail
              rw [Exit.noGoto_ret]
              obtain ⟨z0, z1⟩ := box_two y0 y1 (.int .i64 (x : Int)) (.int .i64 (i : Int))
              have hkW : Keeps [w.heap.size] w4 ((wy.setCell ⟨w.heap.size, 0, none⟩ (.int .i64 (x : Int))).setCell ⟨w.heap.size, 1, none⟩ (.int .i64 (i : Int))).drew := ((hkY.setCell _ (Or.inl (by simp)) _).setCell _ (Or.inl (by simp)) _).drew
              refine bodyPost_ret (v := .tuple #[.slice (some ⟨g', 0, none⟩) (k + 1) cap', .agg #[.int .i64 (x : Int), .int .i64 (i : Int)], .bool true]) (by simp [results, Tryz.results40, go_sem, z0, z1]; try rfl) rfl ?_
              have hl := HLen.out
              have hl2 : (rs ++ [s]).length = k + 1 := by simp [hl]
              have hrw := HOW.out
              rw [← cellsF_snoc] at hrw
              have hfo := HFo.out
              have hK2' : (k + 1) * 6000000 = k * 6000000 + 6000000 := by omega
              refine ⟨rs ++ [s], N4, _, _, cap', HM4.out.keeps hkW (by simp; omega) (by simp; omega) (by simp; omega) (by simp; omega), by omega, (HFs.out.ext ((HExt.out.trans G2.out).trans A2.out)).snoc (((HExt.out.trans G2.out).trans A2.out) _ _ HVF.out) (by rw [hl]; exact HF.out), ((((LevAt.ofRow hrw hl2).keeps hkk (by simp; omega)).keeps hkW (by simp)).low (by omega)), by omega, ?_, Or.inl ⟨k, x, i, hl2, hfo.1, by rw [sys_I, ← HP.out]; exact hiP, hfo.2, HNB.out, by rw [hl2]⟩⟩
              exact (((hkw.trans hkk).mono (S' := [t, bn, bm, w.heap.size]) (by intro i hi; simp at hi ⊢; omega)).trans (hkW.mono (by simp))).strike (fun i hi hlt => by simp at hi ⊢; omega)
        · obtain rfl : i = P := by omega
          have c0 := hm.hd.c0
          have HC1 := hid_intro (or_any hm.hd (hext _ _ HVR.out) (hext _ _ HVF.out) (by omega))
          have HMq := hid_intro hm
          have HExt := hid_intro hext
          have HNb := hid_intro hnb
          clear hm hext hnb
          go_wp2_with fail
          refine Calls.mono HC1.out ?_
          rintro e w2 ⟨r2, N3, rfl, g1, g2, g3, g4⟩
          have hm2 := HMq.out.step g1 g2 g4
          have hmd := hm2.keeps (S := []) (Keeps.refl [] w2).drew (by simp) (by simp) (by simp) (by simp)
          have G1 := hid_intro g1
          have G2 := hid_intro g2
          have G3 := hid_intro g3
          have HMd := hid_intro hmd
          have s0 : w2.drew.cell? ⟨m, 0, none⟩ = some (.pointer (some ⟨t, 0, none⟩)) ∧ True := ⟨hmd.hd.c0, trivial⟩
          clear g1 g2 g3 HC1 hm2 hmd c0
          go_wp2_with fail
          go_region_held3 (fun w' => w'.cell? ⟨m, 0, none⟩ = some (.pointer (some ⟨t, 0, none⟩)) ∧ True)
            (first | exact s0 | exact s1 | exact s2 | exact s3 | assumption)
            (first
              | (go_at_call 71; refine (behind_any HMd.out.hd (G2.out _ _ (HExt.out _ _ HVF.out)) HMd.out.vs HMd.out.c4 ?z0).mono ?_; (case z0 => omega); rintro e3 w3 ⟨r3, N4, rfl, a1, a2, a3, a4⟩; have s1 := And.intro a1.c0 trivial)
              | (go_at_call 39; refine (mnot a1 (a2 _ _ G3.out) ?z1).mono ?_; (case z1 => omega); rintro e4 w4 ⟨r4, N5, rfl, q1, q2, q3, q4⟩; have s2 := And.intro q1.c0 trivial)
              | (go_at_call 34; refine (and_any q1 (q2 _ _ a3) q3 ?z2).mono ?_; (case z2 => omega); rintro e5 w5 ⟨r5, N6, rfl, p1, p2, p3, p4⟩; have s3 := And.intro p1.c0 trivial))
          have hmf := (HMd.out.step a1 a2 a4).step q1 q2 q4 |>.step p1 p2 p4
          have hex := (a2.trans q2).trans p2
          have hkf : Keeps [t, bn, bm] w1 w5 := (((hkq.trans g4).drew.trans a4).trans q4).trans p4
          have HMf := hid_intro hmf
          have HEx := hid_intro hex
          have P3 := hid_intro p3
          have A3 := hid_intro a3
          clear hmf hex p1 p2 p3 a1 a2 a3 q1 q2 q3 s0 s1 s2 s3
          go_wp2_with fail
          have hl := HLen.out
          have hl2 : (rs ++ [s]).length = k + 1 := by simp [hl]
          have hrw := HOW.out
          rw [← cellsF_snoc] at hrw
          have hex2 := HExt.out.trans (G2.out.trans HEx.out)
          have hR2 := bef_next HR.out HF.out
          refine ⟨⟨k + 1, some ⟨g', 0, none⟩, cap', r2, r5, by omega, rfl, rfl, rfl, rfl, rs ++ [s], N6, _, _, _, hl2, row_keeps hrw hkf (by intro i hi; simp at hi; omega), HMf.out, by omega, (HFs.out.ext hex2).snoc (hex2 _ _ HVF.out) (by rw [hl]; exact HF.out), HEx.out _ _ G3.out, hR2, P3.out, lev_next HG.out hR2 HF.out, fun j hj => ?_, ⟨hkf.cell E0.out (by simp; omega), hkf.cell E1.out (by simp; omega), fun q => by rw [hkf.frozen hsz1 (by simp; omega)]; exact EF.out q⟩, Nat.lt_of_lt_of_le hsz1 hkf.size, hkw.trans hkf⟩, by simp [lenOf]; omega⟩
          by_cases e : j = k
          · subst e
            rintro ⟨x, i', h1, h2, h3⟩
            rw [sys_I, ← HP.out] at h2
            rw [HNb.out x i' h1 h2] at h3
            cases h3
          · exact HNB.out j (by omega)

end Go.Proofs.YtmgjegokkbghlaaGreatDoor
