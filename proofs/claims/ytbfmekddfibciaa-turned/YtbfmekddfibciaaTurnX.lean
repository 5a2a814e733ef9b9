/- exchange of a store. -/
import Derived.Test.YtbfmekddfibciaaTurn
namespace Go.Proofs.Ytbfmekddfibciaa
open Go.RowKit Go.Maps Bdd
attribute [local go_sem ↓] Go.wp_at_zero Go.wp_at_succ

set_option maxRecDepth 100000 in
set_option maxHeartbeats 16000000 in
theorem exchangec_any {w : World} {s hb t bn bm L nh sz : Nat} {od : Ord L} {lim given lb : Int} {V : Int → Option Fun} (h : St w s hb t bn bm od nh sz lim given V lb) {p : Nat} (h0 : 0 ≤ (p : Int)) (h1 : (p : Int) + 1 < (L : Int)) (hlb : lb + 50000 ≤ 4611686018427387904) :
    Calls Try.prog 82 #[.pointer (some ⟨s, 0, none⟩), .int .i64 (p : Int)] w fun e w' => e = .returned (.tuple #[]) ∧ (∃ sz', St w' s hb t bn bm (od.swap p h0 h1) nh sz' lim given V (lb + 50000)) ∧ Keeps [t, bn, bm, od.blk] w w' := by
  obtain ⟨N, last, H, hst, k1, k2, k3, k4, k5, k6⟩ := h
  have hL8 : L ≤ 8 := by have := hst.tab.wf.tops; omega
  have hpl : pw L ≤ 256 := by
    have : ∀ k, k ≤ 8 → pw k ≤ 256 := by decide
    exact this L (by omega)
  have hszb : sz ≤ 20000 := by
    have : sz ≤ 60 * 255 := Nat.le_trans k5 (Nat.mul_le_mul k6 (by omega))
    omega
  have c4 := hst.c4
  have HV : Hid (∀ x, V x = (H x).map (FV N od)) := k2
  have hp1 : p + 1 < L := by omega
  have ls := hst.lts
  have nso : s ∉ [t, bn, bm] := by simp; exact ⟨hst.n3, hst.tab.names.ne_cell hst.c0, hst.tab.nodes.ne_cell hst.c0⟩
  have noo : od.blk ∉ [t, bn, bm] := by simp; exact ⟨hst.n5, hst.on, hst.om⟩
  clear k2
  go_enter Try.func82, Try.ntmps82
  go_wp2_with fail
  refine (exchange_any hst.tab h0 h1 hszb (by omega)).mono ?_
  rintro e w1 ⟨A, lastc, sz1, rfl, hT1, hE1, hlc, hk1⟩
  have d2 := hk1.cell hst.c2 nso
  have o0 := hk1.cell (hst.ord p (by omega)).1 noo
  have o1 := hk1.cell (hst.ord (p + 1) hp1).1 noo
  have q0 : w1.frozen? ⟨od.blk, p, none⟩ = false := (hk1.frozen (p := ⟨od.blk, p, none⟩) (ls _ (by simp)) noo).trans (hst.ord p (by omega)).2
  have q1 : w1.frozen? ⟨od.blk, p + 1, none⟩ = false := (hk1.frozen (p := ⟨od.blk, p + 1, none⟩) (ls _ (by simp)) noo).trans (hst.ord (p + 1) hp1).2
  have ks : ∀ (w' : World) (i : Nat) (u : Value), w'.cell? ⟨s, 2, none⟩ = some (.slice (some ⟨od.blk, 0, none⟩) L od.cap) → (w'.setCell ⟨od.blk, i, none⟩ u).cell? ⟨s, 2, none⟩ = some (.slice (some ⟨od.blk, 0, none⟩) L od.cap) := fun w' i u hc => by
    rw [World.cell?_setCell_other _ _ _ _ (by first | (simp; done) | (intro e; cases e; exact hst.n4 rfl) | (intro e; exact hst.n4 (congrArg Addr.block e).symm) | (intro e; exact hst.n4 (congrArg Addr.block e)))]
    exact hc
  have KS : Hid (∀ (w' : World) (i : Nat) (u : Value), w'.cell? ⟨s, 2, none⟩ = some (.slice (some ⟨od.blk, 0, none⟩) L od.cap) → (w'.setCell ⟨od.blk, i, none⟩ u).cell? ⟨s, 2, none⟩ = some (.slice (some ⟨od.blk, 0, none⟩) L od.cap)) := ks
  clear ks
  generalize hx0 : od.at_ ((p : Nat) : Int) = x0 at o0
  generalize hx1 : od.at_ ((p + 1 : Nat) : Int) = x1 at o1
  have HX : Hid (od.at_ ((p : Nat) : Int) = x0 ∧ od.at_ ((p + 1 : Nat) : Int) = x1) := ⟨hx0, hx1⟩
  clear hx0 hx1
  obtain ⟨x, hx⟩ : ∃ x : Int, x = (p : Int) := ⟨_, rfl⟩
  rw [← hx]
  have xn0 : x.toNat = p := by omega
  have xn1 : (x + 1).toNat = p + 1 := by omega
  have xb0 : 0 ≤ x := by omega
  have xb1 : x + 1 < (L : Int) := by omega
  have xb2 : x < (L : Int) := by omega
  have xb3 : 0 ≤ x + 1 := by omega
  have xb4 : (L : Int) ≤ 8 := by omega
  have hwr : IntKind.i64.wrap (x + 1) = x + 1 := IntWalk.i64_in _ ⟨by omega, by omega⟩
  rw [← xn0] at o0 q0
  rw [← xn1] at o1 q1
  have HXN : Hid (x = (p : Int) ∧ x.toNat = p ∧ (x + 1).toNat = p + 1) := ⟨hx, xn0, xn1⟩
  have HH : Hid (0 ≤ (p : Int) ∧ (p : Int) + 1 < (L : Int) ∧ p + 1 < L) := ⟨h0, h1, hp1⟩
  clear hx xn0 xn1
  go_wp2_with fail
  go_region
  go_wp2_with fail
  all_goals
    simp only [HXN.out.2.1, HXN.out.2.2]
    have hx0 := HX.out.1
    have hx1 := HX.out.2
    have hx1' : od.at_ ((p : Int) + 1) = x1 := by rw [← hx1]; congr 1
    rw [← hx0, ← hx1']
    have hok : ∀ y f, H y = some f → Ok A 0 f := fun y f hy => hE1.ok HH.out.1 (fun _ => trivial) (fun _ => trivial) (fun _ h => h) (hst.ok y f hy) (Or.inl HH.out.1)
    have hst2 := (hst.exch HH.out.1 HH.out.2.1 hk1 hT1 hok).keeps ((Keeps.refl _ _).drew)
    refine (forget_any hst2 (by omega)).mono ?_
    rintro e w3 ⟨sz3, K, rfl, hst3, hcl, hK1, hK2, hszb, hk3⟩
    have kk : Keeps [t, bn, bm, od.blk] w w3 := ((((hk1.mono (by simp)).setCell _ (Or.inl (by simp)) _).setCell _ (Or.inl (by simp)) _).drew).trans (hk3.mono (by simp))
    have HST3 : Hid (StAt w3 s hb t bn bm sz3 nh (od.swap p HH.out.1 HH.out.2.1) lim given (keep A K) lastc H) := hst3
    have hV3 : ∀ y, V y = (H y).map (FV (keep A K) (od.swap p HH.out.1 HH.out.2.1)) := by
      intro y
      rw [HV.out y, ← E_trim (od := od.swap p HH.out.1 HH.out.2.1) hst2.tab.wf hst2.tab.wf (Sub.refl A) hcl hst2.ok hK2 y]
      cases hy : H y with
      | none => rfl
      | some f =>
        simp only [Option.map_some]
        rw [FV_swapo hst.tab.wf HH.out.1 HH.out.2.1 hE1 (hst.ok y f hy)]
    have HV3 : Hid (∀ y, V y = (H y).map (FV (keep A K) (od.swap p HH.out.1 HH.out.2.1))) := hV3
    have htr := trim_keep hcl hK1 hK2
    clear hV3 hst3 hst2 hx0 hx1 hx1'
    go_wp2_with fail
    go_end0
    exact ⟨rfl, ⟨sz3, _, _, _, HST3.out, htr, HV3.out, by omega, k4, hszb, k6⟩, kk⟩

end Go.Proofs.Ytbfmekddfibciaa
