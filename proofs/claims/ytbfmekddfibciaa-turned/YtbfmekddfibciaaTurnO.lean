/- arrange, isOrder, Order, Reorder of a store. -/
import Derived.Test.YtbfmekddfibciaaTurnR
namespace Go.Proofs.Ytbfmekddfibciaa
open Go.RowKit Go.Maps Bdd
attribute [local go_sem ↓] Go.wp_at_zero Go.wp_at_succ

/-- a list of numbers that is an order -/
structure IsOrd (L : Nat) (d : Int → Int) : Prop where
  range : ∀ k, 0 ≤ k → k < (L : Int) → 0 ≤ d k ∧ d k < (L : Int)
  inj : ∀ j k, 0 ≤ j → j < (L : Int) → 0 ≤ k → k < (L : Int) → d j = d k → j = k

theorem StO.inj {w : World} {s hb t bn bm blk L nh sz : Nat} {lim given lb : Int} {V : Int → Option Fun} {c : Int → Int} (h : StO w s hb t bn bm blk L nh lim given V lb c sz) : IsOrd L c := by
  obtain ⟨od, _, _, hI⟩ := h
  refine ⟨fun k k0 k1 => ?_, fun j k j0 j1 k0 k1 e => ?_⟩
  · rw [← hI k k0 k1]; obtain ⟨a, b, _⟩ := od.r1 k k0 k1; exact ⟨a, b⟩
  · rw [← hI j j0 j1, ← hI k k0 k1] at e
    have h1 := (od.r1 j j0 j1).2.2
    have h2 := (od.r1 k k0 k1).2.2
    rw [e, h2] at h1
    exact h1.symm

set_option maxRecDepth 100000 in
set_option maxHeartbeats 1000000 in
theorem arrange_any {w : World} {s hb t bn bm blk L nh sz b o cap : Nat} {lim given lb : Int} {V : Int → Option Fun} {c d : Int → Int} (h : StO w s hb t bn bm blk L nh lim given V lb c sz) (hd : IsOrd L d) (hl : NumsIn w b o L d) (hbS : b ∉ [t, bn, bm, blk]) (hlb : lb + 4000000 ≤ 4611686018427387904) :
    Calls Try.prog 61 #[.pointer (some ⟨s, 0, none⟩), .slice (some ⟨b, o, none⟩) L cap] w fun e w' => e = .returned (.tuple #[]) ∧ (∃ sz', StO w' s hb t bn bm blk L nh lim given V (lb + 4000000) d sz') ∧ Keeps [t, bn, bm, blk] w w' := by
  obtain ⟨hL8, hL0, _, _, _, _, _⟩ := order_o h
  have HS : Hid (StO w s hb t bn bm blk L nh lim given V lb c sz) := h
  have HD : Hid (IsOrd L d) := hd
  have HL : Hid (NumsIn w b o L d) := hl
  clear h hd hl
  go_enter Try.func61, Try.ntmps61
  go_wp2_with fail
  go_loopw [8] (fun i' wx => ∃ (j : Nat) (c' : Int → Int) (sz' : Nat), j ≤ L ∧ i' = .int .i64 j ∧ Hid (StO wx s hb t bn bm blk L nh lim given V (lb + 400000 * j) c' sz') ∧ Hid (∀ k, 0 ≤ k → k < (j : Int) → c' k = d k) ∧ Keeps [t, bn, bm, blk] w wx) (fun i' _ => L - (intOf i').toNat)
  case atStart => exact ⟨0, c, sz, by omega, rfl, HS.out.mono (by omega), fun k k0 k1 => by omega, Keeps.refl _ _⟩
  case round =>
    clear HS
    obtain ⟨j, c', sz', hj, rfl, hS, hC, hk⟩ := hrel
    by_cases hlt : j < L
    · have hj0 : (0 : Int) ≤ (j : Int) := by omega
      have hj1 : (j : Int) < (L : Int) := by omega
      have hcj := hk.cell (HL.out j hlt) hbS
      obtain ⟨x0, x1⟩ := HD.out.range j hj0 hj1
      obtain ⟨rest, p, hp, hS2, hrest⟩ := hS.out.rest x0 x1
      have hpj : j ≤ p := by
        apply Classical.byContradiction
        intro hn
        have h1 := hrest p (by omega) (by omega)
        have e : ins rest (d j) p p = d j := by unfold ins; rw [if_neg (by omega), if_pos rfl]
        rw [e, hC.out p (by omega) (by omega)] at h1
        have := HD.out.inj j p hj0 hj1 (by omega) (by omega) h1
        omega
      have HN : Hid (∀ k, 0 ≤ k → k < ((j + 1 : Nat) : Int) → ins rest (d j) j k = d k) := by
        intro k k0 k1
        by_cases e : k = j
        · subst e; unfold ins; rw [if_neg (by omega), if_pos rfl]
        · have h1 := hrest k k0 (by omega)
          rw [hC.out k k0 (by omega)] at h1
          rw [← h1]
          unfold ins
          rw [if_pos (by omega), if_pos (by omega)]
      obtain ⟨x, hx⟩ : ∃ x, x = d j := ⟨_, rfl⟩
      rw [← hx] at hcj hS2 x0 x1 HN
      have hcall := move_any hS2 x0 x1 hp hlt hL8 (by omega)
      clear hS hC hS2 hrest hx
      go_wp2_with fail
      refine hcall.mono ?_
      rintro e w3 ⟨rfl, ⟨sz3, hS3⟩, hk3⟩
      go_wp2_with fail
      go_roundw
      case rel => exact ⟨j + 1, _, sz3, by omega, by go_num, hS3.mono (by omega), HN.out, hk.trans hk3⟩
      case measure => simp [intOf]; omega
    · have ej : j = L := by omega
      subst ej
      go_wp2_with fail
      go_end0
      exact ⟨rfl, ⟨sz', (hS.out.congr hC.out).mono (by omega)⟩, hk⟩

set_option maxRecDepth 100000 in
set_option maxHeartbeats 1000000 in
theorem isOrder_any {w : World} {s hb t bn bm blk L nh sz b o cap : Nat} {lim given lb : Int} {V : Int → Option Fun} {c d : Int → Int} (h : StO w s hb t bn bm blk L nh lim given V lb c sz) (hl : NumsIn w b o L d) :
    Calls Try.prog 60 #[.pointer (some ⟨s, 0, none⟩), .slice (some ⟨b, o, none⟩) L cap] w fun e w' => ∃ r : Bool, e = .returned (.bool r) ∧ (r = true ↔ ∀ k, 0 ≤ k → k < (L : Int) → ∃ j : Nat, j < L ∧ d (j : Int) = c k) ∧ Keeps [] w w' := by
  obtain ⟨hL8, hL0, ⟨ocap, c2⟩, _, hord, _, _⟩ := order_o h
  have HL : Hid (NumsIn w b o L d) := hl
  have HO : Hid (∀ k : Nat, k < L → w.cell? ⟨blk, k, none⟩ = some (.int .i64 (c k))) := hord
  clear h hl hord
  go_enter Try.func60, Try.ntmps60
  go_wp2_with fail
  go_loopw [20] (fun i' wx => ∃ j : Nat, j ≤ L ∧ i' = .int .i64 j ∧ Hid (∀ k : Nat, k < j → ∃ m : Nat, m < L ∧ d (m : Int) = c (k : Int)) ∧ Keeps [] w wx) (fun i' _ => L - (intOf i').toNat)
  case atStart => exact ⟨0, by omega, rfl, fun k hk => by omega, Keeps.refl _ _⟩
  case round =>
    obtain ⟨j, hj, rfl, hA, hk⟩ := hrel
    by_cases hlt : j < L
    · have hj0 : (0 : Int) ≤ (j : Int) := by omega
      have hj1 : (j : Int) < (L : Int) := by omega
      have hcj := hk.cell (HO.out j hlt) (by simp)
      obtain ⟨x, hx⟩ : ∃ x, x = c (j : Int) := ⟨_, rfl⟩
      rw [← hx] at hcj
      have HX : Hid (x = c (j : Int)) := hx
      clear hx
      have hcall := contains_any (cap := cap) (HL.out.keeps hk (by simp)) (by omega) x
      go_wp2_with fail
      refine hcall.mono ?_
      rintro e w2 ⟨r, hr, rfl, hk2⟩
      clear hcall
      cases r with
      | true =>
        have HR : Hid (∃ k : Nat, k < L ∧ d (k : Int) = x) := hr.1 rfl
        clear hr
        go_wp2_with fail
        go_roundw
        case rel =>
          refine ⟨j + 1, by omega, by go_num, fun k hk' => ?_, hk.trans hk2⟩
          by_cases e : k = j
          · subst e; rw [← HX.out]; exact HR.out
          · exact hA.out k (by omega)
        case measure => simp [intOf]; omega
      | false =>
        have HR : Hid (¬ ∃ k : Nat, k < L ∧ d (k : Int) = x) := fun h => absurd (hr.2 h) (by simp)
        clear hr
        go_wp2_with fail
        go_ret
        refine ⟨false, rfl, ⟨(fun h => absurd h (by simp)), (fun h => ?_)⟩, hk.trans hk2⟩
        exact absurd (by rw [HX.out]; exact h j hj0 hj1) HR.out
    · have ej : j = L := by omega
      subst ej
      go_wp2_with fail
      go_ret
      refine ⟨true, rfl, ⟨fun _ k k0 k1 => ?_, fun _ => rfl⟩, hk⟩
      obtain ⟨m, rfl⟩ := Int.eq_ofNat_of_zero_le k0
      exact hA.out m (by omega)

end Go.Proofs.Ytbfmekddfibciaa
