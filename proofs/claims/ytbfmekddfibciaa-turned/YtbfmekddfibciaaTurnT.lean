/- turned; Reorder of what is no order. -/
import Derived.Test.YtbfmekddfibciaaTurnP
import Derived.Test.YtbfmekddfibciaaBits
import Derived.Test.YtbfmekddfibciaaGrown
namespace Go.Proofs.Ytbfmekddfibciaa
open Go.RowKit Go.Maps Bdd
attribute [local go_sem ↓] Go.wp_at_zero Go.wp_at_succ

set_option maxRecDepth 100000 in
set_option maxHeartbeats 1000000 in
theorem reorder_bad {w : World} {s hb t bn bm blk L nh sz b o cap : Nat} {lim given lb : Int} {V : Int → Option Fun} {c d : Int → Int} (h : StO w s hb t bn bm blk L nh lim given V lb c sz) (hl : NumsIn w b o L d) {v : Int} (v0 : 0 ≤ v) (v1 : v < (L : Int)) (hno : ∀ j : Nat, j < L → d (j : Int) ≠ v) :
    Calls Try.prog 30 #[.pointer (some ⟨s, 0, none⟩), .slice (some ⟨b, o, none⟩) L cap] w fun e w' => e = .returned (.int .i64 6) ∧ Keeps [] w w' := by
  have hc1 := isOrder_any (cap := cap) h hl
  have hv : ∃ k, 0 ≤ k ∧ k < (L : Int) ∧ c k = v := by
    obtain ⟨od, _, _, hI⟩ := h
    obtain ⟨a0, a1, a2⟩ := od.r2 v v0 v1
    exact ⟨od.lv v, a0, a1, by rw [← hI _ a0 a1, a2]⟩
  have HN : Hid (∀ j : Nat, j < L → d (j : Int) ≠ v) := hno
  have HV : Hid (∃ k, 0 ≤ k ∧ k < (L : Int) ∧ c k = v) := hv
  clear h hl hno hv
  go_enter Try.func30, Try.ntmps30
  go_wp2_with fail
  refine hc1.mono ?_
  rintro e w1 ⟨r, rfl, hr, hk1⟩
  have hrt : r = false := by
    cases r with
    | false => rfl
    | true =>
      obtain ⟨k, k0, k1, hk⟩ := HV.out
      obtain ⟨j, hj, e⟩ := hr.1 rfl k k0 k1
      exact absurd (e.trans hk) (HN.out j hj)
  subst hrt
  clear hr hc1
  go_wp2_with fail
  go_ret
  exact ⟨rfl, hk1⟩

/-- an order of four, all there -/
structure Ord4 (d : Int → Int) : Prop where
  ord : IsOrd 4 d
  all : ∀ k, 0 ≤ k → k < ((4 : Nat) : Int) → ∃ j : Nat, j < 4 ∧ d (j : Int) = k
theorem ord4_id : Ord4 (fun k => k) := ⟨⟨fun k k0 k1 => ⟨k0, k1⟩, fun j k _ _ _ _ e => e⟩, fun k k0 k1 => ⟨k.toNat, by omega, by omega⟩⟩
def tau (a b k : Int) : Int := if k = b then a else if k = a then b else k
theorem tau_tau (a b k : Int) : tau a b (tau a b k) = k := by
  unfold tau
  by_cases e1 : k = b
  · rw [if_pos e1]
    by_cases e2 : a = b
    · rw [if_pos e2, e1, e2]
    · rw [if_neg e2, if_pos rfl, e1]
  · rw [if_neg e1]
    by_cases e2 : k = a
    · rw [if_pos e2, if_pos rfl, e2]
    · rw [if_neg e2, if_neg e1, if_neg e2]
theorem tau_in {a b k : Int} (a0 : 0 ≤ a) (a1 : a < 4) (b0 : 0 ≤ b) (b1 : b < 4) (k0 : 0 ≤ k) (k1 : k < 4) : 0 ≤ tau a b k ∧ tau a b k < 4 := by
  unfold tau
  split
  · omega
  · split <;> omega
theorem Ord4.swap {d : Int → Int} (h : Ord4 d) {a b : Int} (a0 : 0 ≤ a) (a1 : a < 4) (b0 : 0 ≤ b) (b1 : b < 4) : Ord4 (fun k => d (tau a b k)) := by
  refine ⟨⟨fun k k0 k1 => ?_, fun j k j0 j1 k0 k1 e => ?_⟩, fun k k0 k1 => ?_⟩
  · obtain ⟨t0, t1⟩ := tau_in a0 a1 b0 b1 k0 (by simpa using k1)
    exact h.ord.range _ t0 (by simpa using t1)
  · obtain ⟨t0, t1⟩ := tau_in a0 a1 b0 b1 j0 (by simpa using j1)
    obtain ⟨u0, u1⟩ := tau_in a0 a1 b0 b1 k0 (by simpa using k1)
    have := h.ord.inj _ _ t0 (by simpa using t1) u0 (by simpa using u1) e
    rw [← tau_tau a b j, this, tau_tau]
  · obtain ⟨j, hj, e⟩ := h.all k k0 k1
    obtain ⟨t0, t1⟩ := tau_in (k := (j : Int)) a0 a1 b0 b1 (by omega) (by omega)
    refine ⟨(tau a b j).toNat, by omega, ?_⟩
    show d (tau a b ((tau a b j).toNat : Int)) = k
    rw [Int.toNat_of_nonneg t0, tau_tau, e]
/-- a list of four numbers that may be written -/
def Four4 (w : World) (g : Nat) (d : Int → Int) : Prop := ∀ k : Nat, k < 4 → w.cell? ⟨g, k, none⟩ = some (.int .i64 (d k)) ∧ w.frozen? ⟨g, k, none⟩ = false
theorem Four4.drew {w : World} {g : Nat} {d : Int → Int} (h : Four4 w g d) : Four4 w.drew g d := h
theorem Four4.swap {w : World} {g : Nat} {d : Int → Int} (h : Four4 w g d) {a b : Nat} (ha : a < 4) (hb : b < 4) : Four4 ((w.setCell ⟨g, a, none⟩ (.int .i64 (d b))).setCell ⟨g, b, none⟩ (.int .i64 (d a))) g (fun k => d (tau a b k)) := by
  intro k hk
  refine ⟨?_, by rw [World.frozen?_setCell, World.frozen?_setCell]; exact (h k hk).2⟩
  show _ = some (Value.int .i64 (d (tau a b k)))
  by_cases e1 : k = b
  · subst e1
    have e : tau (a : Int) (k : Int) (k : Int) = (a : Int) := by unfold tau; rw [if_pos rfl]
    rw [e]
    by_cases e2 : k = a
    · subst e2
      exact World.cell?_setCell_same _ _ _ (World.cell?_setCell_same _ _ _ (h k hk).1)
    · refine World.cell?_setCell_same _ _ _ (u := .int .i64 (d k)) ?_
      rw [World.cell?_setCell_other _ _ _ _ (by first | (simp; done) | (simp; omega))]
      exact (h k hk).1
  · rw [World.cell?_setCell_other _ _ _ _ (by first | (simp; done) | (simp; omega))]
    by_cases e2 : k = a
    · subst e2
      have e : tau (k : Int) (b : Int) (k : Int) = (b : Int) := by unfold tau; rw [if_neg (by omega), if_pos rfl]
      rw [e]
      exact World.cell?_setCell_same _ _ _ (h k hk).1
    · have e : tau (a : Int) (b : Int) (k : Int) = (k : Int) := by unfold tau; rw [if_neg (by omega), if_neg (by omega)]
      rw [e, World.cell?_setCell_other _ _ _ _ (by first | (simp; done) | (simp; omega))]
      exact (h k hk).1

theorem fits_quo {z : Int} (h : Fits z) : Fits (wrap64 (z.tdiv 4)) := by
  unfold Fits at h
  have hb : -9223372036854775808 ≤ z.tdiv 4 ∧ z.tdiv 4 ≤ 9223372036854775807 := by
    by_cases h0 : 0 ≤ z
    · rw [Int.tdiv_eq_ediv_of_nonneg h0]; omega
    · obtain ⟨y, rfl⟩ : ∃ y, z = -y := ⟨-z, by omega⟩
      rw [Int.neg_tdiv, Int.tdiv_eq_ediv_of_nonneg (by omega)]; omega
  rw [IntWalk.wrap64_in _ ⟨by omega, by omega⟩]
  exact hb

set_option maxRecDepth 100000 in
set_option maxHeartbeats 4000000 in
theorem turned_any {w : World} {a0 : Option Addr} {len cap : Nat} {zs : Nat → Int} (hcode : len = 0 ∨ ∃ cb co, a0 = some ⟨cb, co, none⟩ ∧ IntsAt w cb co len zs) (hlen : (len : Int) ≤ 9223372036854775807) :
    Calls Try.prog 29 #[.slice a0 len cap] w fun e w' => ∃ (d : Int → Int), e = .returned (.slice (some ⟨w.heap.size, 0, none⟩) 4 4) ∧ Four4 w' w.heap.size d ∧ Ord4 d ∧ Keeps [] w w' := by
  have HC : Hid (len = 0 ∨ ∃ cb co, a0 = some ⟨cb, co, none⟩ ∧ IntsAt w cb co len zs) := hcode
  clear hcode
  obtain ⟨W, hW⟩ : ∃ W, W = w.alloc (.cells #[.int .i64 0, .int .i64 1, .int .i64 2, .int .i64 3] 3) := ⟨_, rfl⟩
  have hkW : Keeps [] w W := by rw [hW]; exact (Keeps.refl _ _).alloc _
  have hF : Four4 W w.heap.size (fun k => k) := by
    intro k hk
    rw [hW]
    refine ⟨?_, World.frozen?_alloc_at _ _ _ _ rfl⟩
    have : k = 0 ∨ k = 1 ∨ k = 2 ∨ k = 3 := by omega
    rcases this with rfl | rfl | rfl | rfl <;> simp
  have HF : Hid (Four4 W w.heap.size (fun k => k)) := hF
  have HW : Hid (W = w.alloc (.cells #[.int .i64 0, .int .i64 1, .int .i64 2, .int .i64 3] 3)) := hW
  have hlW : w.heap.size < W.heap.size := by rw [hW]; simp
  clear hW hF
  go_enter Try.func29, Try.ntmps29
  go_wp2_with fail
  rw [← HW.out]
  go_loopw [4, 5, 6] (fun i' _ _ wx => ∃ (j : Nat) (d : Int → Int), j ≤ len ∧ i' = .int .i64 j ∧ Hid (Four4 wx w.heap.size d) ∧ Hid (Ord4 d) ∧ Keeps [w.heap.size] W wx) (fun i' _ _ _ => len - (intOf i').toNat)
  case atStart => exact ⟨0, fun k => k, by omega, rfl, HF.out, ord4_id, Keeps.refl _ _⟩
  case round =>
    clear HF
    obtain ⟨j, d, hj, rfl, h4, hO, hk⟩ := hrel
    by_cases hlt : j < len
    · have hj0 : (0 : Int) ≤ (j : Int) := by omega
      have hj1 : (j : Int) < (len : Int) := by omega
      obtain ⟨cb, co, rfl, hI⟩ := HC.out.resolve_left (by omega)
      obtain ⟨hcell, hfit⟩ := hI j hlt
      have lcb : cb < w.heap.size := cell_lt (p := ⟨cb, co + j, none⟩) hcell
      have hcj := hk.cell (hkW.cell hcell (by simp)) (by simp; omega)
      obtain ⟨z, hz⟩ : ∃ z, z = zs j := ⟨_, rfl⟩
      rw [← hz] at hcj hfit
      clear hz hI hcell
      go_wp2_with fail
      refine (pick_any hfit (by omega) (by omega)).mono ?_
      rintro e w3 ⟨⟨a, rfl, ha0, ha1⟩, rfl⟩
      go_wp2_with fail
      refine (pick_any (fits_quo hfit) (by omega) (by omega)).mono ?_
      rintro e w3 ⟨⟨b, rfl, hb0, hb1⟩, rfl⟩
      obtain ⟨na, rfl⟩ := Int.eq_ofNat_of_zero_le ha0
      obtain ⟨nb, rfl⟩ := Int.eq_ofNat_of_zero_le hb0
      have la : na < 4 := by omega
      have lb : nb < 4 := by omega
      have p1 := (h4.out na la).1
      have p2 := (h4.out na la).2
      have p3 := (h4.out nb lb).1
      have p4 := (h4.out nb lb).2
      have h4' := h4.out.swap la lb
      have hO' := hO.out.swap (a := na) (b := nb) (by omega) (by omega) (by omega) (by omega)
      have H4' : Hid (Four4 ((wr.setCell ⟨w.heap.size, na, none⟩ (.int .i64 (d nb))).setCell ⟨w.heap.size, nb, none⟩ (.int .i64 (d na))) w.heap.size (fun k => d (tau na nb k))) := h4'
      have HO' : Hid (Ord4 (fun k => d (tau na nb k))) := hO'
      generalize d (na : Int) = xa at p1 H4'
      generalize d (nb : Int) = xb at p3 H4'
      obtain ⟨u5, p5⟩ : ∃ u, (wr.setCell ⟨w.heap.size, na, none⟩ (.int .i64 xb)).cell? ⟨w.heap.size, nb, none⟩ = some u := by
        by_cases e : nb = na
        · subst e; exact ⟨_, World.cell?_setCell_same _ _ _ p1⟩
        · exact ⟨_, by rw [World.cell?_setCell_other _ _ _ _ (by first | (simp; done) | (simp; omega))]; exact p3⟩
      clear h4' hO' hO
      go_wp2_with fail
      go_region
      all_goals
        go_wp2_with fail
        go_roundw
        case rel => exact ⟨j + 1, _, by omega, by go_num, H4'.out.drew, HO'.out, ((hk.setCell _ (Or.inl (by simp)) _).setCell _ (Or.inl (by simp)) _).drew⟩
        case measure => simp [intOf]; omega
    · have ej : j = len := by omega
      subst ej
      have hjj : ¬ (j : Int) < (j : Int) := by omega
      go_wp2_with fail
      go_ret
      first
        | exact ⟨d, rfl, h4.out, hO.out, ((hkW.mono (by simp)).trans hk).strike (by simp)⟩
        | exact ⟨rfl, d, h4.out, hO.out, ((hkW.mono (by simp)).trans hk).strike (by simp)⟩

end Go.Proofs.Ytbfmekddfibciaa
