/- arrange, settle, Sift, Reorder, Order of a store. -/
import Derived.Test.YtbfmekddfibciaaTurnM
import Derived.WalkMore
namespace Go.Proofs.Ytbfmekddfibciaa
open Go.RowKit Go.Maps Bdd
attribute [local go_sem ↓] Go.wp_at_zero Go.wp_at_succ

/-- an order out of an order, a variable moved -/
theorem StO.rest {w : World} {s hb t bn bm blk L nh sz : Nat} {lim given lb : Int} {V : Int → Option Fun} {c : Int → Int} (h : StO w s hb t bn bm blk L nh lim given V lb c sz) {i : Int} (i0 : 0 ≤ i) (i1 : i < (L : Int)) : ∃ (rest : Int → Int) (p : Nat), p < L ∧ StO w s hb t bn bm blk L nh lim given V lb (ins rest i p) sz ∧ (∀ k, 0 ≤ k → k < (L : Int) → ins rest i p k = c k) := by
  obtain ⟨od, hS, hb, hI⟩ := h
  have h1 := isAt_rest od i0 i1
  obtain ⟨a0, a1, a2⟩ := od.r2 i i0 i1
  refine ⟨restOf od i, (od.lv i).toNat, by omega, ⟨od, hS, hb, ?_⟩, fun k k0 k1 => ?_⟩
  · rw [Int.toNat_of_nonneg a0]; exact h1
  · rw [Int.toNat_of_nonneg a0, ← h1 k k0 k1, hI k k0 k1]

theorem len_o {w : World} {s hb t bn bm blk L nh sz : Nat} {lim given lb : Int} {V : Int → Option Fun} {c : Int → Int} (h : StO w s hb t bn bm blk L nh lim given V lb c sz) : w.cell? ⟨s, 4, none⟩ = some (.pointer (some ⟨t, 0, none⟩)) ∧ ∀ w', Keeps [] w w' → Calls Try.prog 59 #[.pointer (some ⟨t, 0, none⟩)] w' fun e w'' => e = .returned (.int .i64 (sz : Int)) ∧ w' = w'' := by
  obtain ⟨od, ⟨N, last, H, hst, _⟩, _⟩ := h
  exact ⟨hst.c4, fun w' hk => (len_any (hst.keeps hk).tab).mono (fun e w'' hh => by obtain ⟨h1, h2⟩ := hh; exact ⟨h1, by first | exact h2 | exact h2.symm⟩)⟩
theorem order_o {w : World} {s hb t bn bm blk L nh sz : Nat} {lim given lb : Int} {V : Int → Option Fun} {c : Int → Int} (h : StO w s hb t bn bm blk L nh lim given V lb c sz) : L ≤ 8 ∧ 0 < L ∧ (∃ cap, w.cell? ⟨s, 2, none⟩ = some (.slice (some ⟨blk, 0, none⟩) L cap)) ∧ w.cell? ⟨s, 0, none⟩ = some (.int .i64 lim) ∧ (∀ k : Nat, k < L → w.cell? ⟨blk, k, none⟩ = some (.int .i64 (c k))) ∧ (∀ x ∈ [s, hb, t, bn, bm, blk], x < w.heap.size) ∧ s ∉ [t, bn, bm, blk] := by
  obtain ⟨od, ⟨N, last, H, hst, _⟩, rfl, hI⟩ := h
  refine ⟨by have := hst.tab.wf.tops; omega, hst.pos, ⟨_, hst.c2⟩, hst.c0, fun k hk => ?_, hst.lts, ?_⟩
  · rw [(hst.ord k hk).1, hI k (by omega) (by omega)]
  · simp; exact ⟨hst.n3, hst.tab.names.ne_cell hst.c0, hst.tab.nodes.ne_cell hst.c0, fun e => hst.n4 e.symm⟩

set_option maxRecDepth 100000 in
set_option maxHeartbeats 1000000 in
theorem settle_any {w : World} {s hb t bn bm blk L nh sz : Nat} {lim given lb : Int} {V : Int → Option Fun} {rest : Int → Int} {i : Int} {p : Nat} (h : StO w s hb t bn bm blk L nh lim given V lb (ins rest i p) sz) (i0 : 0 ≤ i) (i1 : i < (L : Int)) (p1 : p < L) (hlb : lb + 4000000 ≤ 4611686018427387904) :
    Calls Try.prog 63 #[.pointer (some ⟨s, 0, none⟩), .int .i64 i] w fun e w' => ∃ (q sz' : Nat) (b : Bool), e = .returned (.bool b) ∧ q < L ∧ StO w' s hb t bn bm blk L nh lim given V (lb + 4000000) (ins rest i q) sz' ∧ (b = true → sz' < sz) ∧ (b = false → sz' = sz) ∧ Keeps [t, bn, bm, blk] w w' := by
  obtain ⟨hL8, hL0, ⟨cap, c2⟩, c0, hord, hlts, hns⟩ := order_o h
  obtain ⟨c4, hlen⟩ := len_o h
  have HS : Hid (StO w s hb t bn bm blk L nh lim given V lb (ins rest i p) sz) := h
  have HLEN : Hid (∀ w', Keeps [] w w' → Calls Try.prog 59 #[.pointer (some ⟨t, 0, none⟩)] w' fun e w'' => e = .returned (.int .i64 (sz : Int)) ∧ w' = w'') := hlen
  clear h hlen
  go_enter Try.func63, Try.ntmps63
  go_wp2_with fail
  refine (HLEN.out _ (Keeps.refl _ _)).mono ?_
  rintro e w1 ⟨rfl, rfl⟩
  go_wp2_with fail
  refine (place_o HS.out i0 i1 (by omega) (by omega)).mono ?_
  rintro e w2 ⟨rfl, hk2⟩
  have HS2 : Hid (StO w2 s hb t bn bm blk L nh lim given V lb (ins rest i p) sz) := HS.out.keeps hk2
  have c2' := hk2.cell c2 (by simp)
  clear HLEN
  go_wp2_with fail
  go_loopw [6, 7, 8, 9, 24] (fun vb vf _ _ i' wx => ∃ (j q bs fw szq : Nat) (wz : World) (lbz : Int), j ≤ L ∧ i' = .int .i64 j ∧ vb = .int .i64 bs ∧ vf = .int .i64 fw ∧ q < L ∧ bs < L ∧ fw ≤ sz ∧ Hid (StO wx s hb t bn bm blk L nh lim given V (lb + 400000 * j) (ins rest i q) szq) ∧ Hid (StO wz s hb t bn bm blk L nh lim given V lbz (ins rest i bs) fw) ∧ Keeps [t, bn, bm, blk] w wx) (fun _ _ _ _ i' _ => L - (intOf i').toNat)
  case atStart => exact ⟨0, p, p, sz, sz, w2, lb, by omega, rfl, rfl, rfl, p1, p1, Nat.le_refl _, HS2.out.mono (by omega), HS2.out, hk2.mono (by simp)⟩
  case round =>
    clear HS HS2
    obtain ⟨j, q, bs, fw, szq, wz, lbz, hj, rfl, rfl, rfl, hq, hbs, hfw, hS, hZ, hk⟩ := hrel
    by_cases hlt : j < L
    · have hj0 : (0 : Int) ≤ (j : Int) := by omega
      have hj1 : (j : Int) < (L : Int) := by omega
      go_wp2_with fail
      refine (move_any hS.out i0 i1 hq hlt hL8 (by omega)).mono ?_
      rintro e w3 ⟨rfl, ⟨sz3, hS3⟩, hk3⟩
      obtain ⟨d4, hlen3⟩ := len_o hS3
      have hlen3' := hlen3 w3 (Keeps.refl _ _)
      have HS3 : Hid (StO w3 s hb t bn bm blk L nh lim given V (lb + 400000 * j + 400000) (ins rest i j) sz3) := hS3
      clear hlen3 hS3
      have hkk := hk.trans hk3
      by_cases hn : sz3 < fw
      · have hn' : (sz3 : Int) < (fw : Int) := by omega
        go_wp2_with fail
        refine hlen3'.mono ?_
        rintro e w4 ⟨rfl, rfl⟩
        go_wp2_with fail
        go_roundw
        case rel => exact ⟨j + 1, j, j, sz3, sz3, w3, _, by omega, by go_num, rfl, rfl, hlt, hlt, by omega, HS3.out.mono (by omega), HS3.out, hkk⟩
        case measure => simp [intOf]; omega
      · have hn' : ¬ (sz3 : Int) < (fw : Int) := by omega
        go_wp2_with fail
        refine hlen3'.mono ?_
        rintro e w4 ⟨rfl, rfl⟩
        go_wp2_with fail
        go_roundw
        case rel => exact ⟨j + 1, j, bs, fw, sz3, wz, lbz, by omega, by go_num, rfl, rfl, hlt, hbs, hfw, HS3.out.mono (by omega), hZ, hkk⟩
        case measure => simp [intOf]; omega
    · have ej : j = L := by omega
      subst ej
      go_wp2_with fail
      refine (move_any hS.out i0 i1 hq hbs hL8 (by omega)).mono ?_
      rintro e w3 ⟨rfl, ⟨sz3, hS3⟩, hk3⟩
      have hsz := hS3.size hZ.out (fun _ _ _ => rfl)
      subst hsz
      have HS3 : Hid (StO w3 s hb t bn bm blk j nh lim given V (lb + 400000 * j + 400000) (ins rest i bs) sz3) := hS3
      clear hS3
      go_wp2_with fail
      go_ret
      refine ⟨bs, sz3, _, rfl, hbs, HS3.out.mono (by omega), fun hb => ?_, fun hb => ?_, hk.trans hk3⟩
      · simp at hb; omega
      · simp at hb; omega

set_option maxRecDepth 100000 in
set_option maxHeartbeats 1000000 in
theorem sift_any {w : World} {s hb t bn bm blk L nh sz : Nat} {lim given lb : Int} {V : Int → Option Fun} {c : Int → Int} (h : StO w s hb t bn bm blk L nh lim given V lb c sz) (hszb : sz ≤ 20000) (hlb : lb + 40000000 * 20001 ≤ 4611686018427387904) :
    Calls Try.prog 32 #[.pointer (some ⟨s, 0, none⟩)] w fun e w' => ∃ (c' : Int → Int) (sz' : Nat), e = .returned (.tuple #[]) ∧ StO w' s hb t bn bm blk L nh lim given V (lb + 40000000 * 20001) c' sz' ∧ sz' ≤ sz ∧ Keeps [t, bn, bm, blk] w w' := by
  obtain ⟨hL8, hL0, ⟨cap, c2⟩, c0, hord, hlts, hns⟩ := order_o h
  have HS : Hid (StO w s hb t bn bm blk L nh lim given V lb c sz) := h
  clear h
  go_enter Try.func32, Try.ntmps32
  go_wp2_with fail
  go_step3
  go_wp2_with fail
  go_step3
  go_wp2_with fail
  go_loopg [] sz (fun g wx => ∃ (c' : Int → Int) (sz' : Nat), g = sz' ∧ sz' ≤ sz ∧ Hid (StO wx s hb t bn bm blk L nh lim given V (lb + 40000000 * ((sz : Int) - sz')) c' sz') ∧ Keeps [t, bn, bm, blk] w wx)
  case atStart => exact ⟨c, sz, rfl, Nat.le_refl _, HS.out.mono (by omega), Keeps.refl _ _⟩
  case round =>
    clear HS
    obtain ⟨c', sz', hg, hsz, hS, hk⟩ := hrel
    have d2 := hk.cell c2 hns
    obtain ⟨wA, rfl⟩ : ∃ wA, wA = wr := ⟨wr, rfl⟩
    go_wp2_with fail
    go_loopg [2, 8] L (fun g2 _ s8 wx => ∃ (j : Nat) (c'' : Int → Int), j + g2 = L ∧ s8 = .int .i64 j ∧ Hid (StO wx s hb t bn bm blk L nh lim given V (lb + 40000000 * ((sz : Int) - sz') + 4000000 * j) c'' sz') ∧ Keeps [t, bn, bm, blk] w wx)
    case atStart => exact ⟨0, c', by omega, rfl, hS.out.mono (by omega), hk⟩
    case round =>
      clear hS hk d2
      obtain ⟨j, c'', hj, rfl, hS, hk⟩ := hrel
      by_cases hlt : j < L
      · have hj0 : (0 : Int) ≤ (j : Int) := by omega
        have hj1 : (j : Int) < (L : Int) := by omega
        obtain ⟨rest, p, hp, hS2, _⟩ := hS.out.rest hj0 hj1
        have hcall := settle_any hS2 hj0 hj1 hp (by omega)
        clear hS hS2
        go_wp2_with fail
        refine hcall.mono ?_
        rintro e w3 ⟨q, sz3, b, rfl, hq, hS3, hb1, hb2, hk3⟩
        have HS3 : Hid (StO w3 s hb t bn bm blk L nh lim given V (lb + 40000000 * ((sz : Int) - sz') + 4000000 * j + 4000000) (ins rest j q) sz3) := hS3
        clear hS3
        cases b with
        | true =>
          have hless := hb1 rfl
          clear hb1 hb2
          go_wp2_with fail
          go_roundg sz3
          case measure => omega
          case rel => exact ⟨_, sz3, rfl, by omega, HS3.out.mono (by omega), hk.trans hk3⟩
        | false =>
          have hsame := hb2 rfl
          subst hsame
          clear hb1 hb2
          go_wp2_with fail
          go_roundg (L - (j + 1))
          case measure => omega
          case rel => exact ⟨j + 1, _, by omega, by go_num, HS3.out.mono (by omega), hk.trans hk3⟩
      · have ej : j = L := by omega
        subst ej
        go_wp2_with fail
        (first | rw [Exit.noGoto_normal] | simp only [Exit.noGoto])
        go_end0
        exact ⟨c'', sz', rfl, hS.out.mono (by omega), hsz, hk⟩

end Go.Proofs.Ytbfmekddfibciaa
