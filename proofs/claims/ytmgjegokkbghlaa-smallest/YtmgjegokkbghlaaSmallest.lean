/- Smallest. -/
import Derived.Test.YtmgjegokkbghlaaCombined
import Derived.Test.YtmgjegokkbghlaaLeastC
namespace Go.Proofs.Ytmgjegokkbghlaa
open Go.RowKit Go.Maps Bdd
attribute [local go_sem ↓] Go.wp_at_zero Go.wp_at_succ

theorem bin_asg : ∀ i, i < 16 → bin (asg i) 4 = i := by decide
theorem asg_bin (a : Int → Bool) : ∀ k : Nat, k < 4 → asg (bin a 4) k = a k := by
  intro k hk
  have e : bin a 4 = 2 * (2 * (2 * (2 * 0 + (a 0).toNat) + (a 1).toNat) + (a 2).toNat) + (a 3).toNat := rfl
  have : k = 0 ∨ k = 1 ∨ k = 2 ∨ k = 3 := by omega
  rw [e]
  rcases this with rfl | rfl | rfl | rfl
  · show _ = a 0
    cases a 0 <;> cases a 1 <;> cases a 2 <;> cases a 3 <;> rfl
  · show _ = a 1
    cases a 0 <;> cases a 1 <;> cases a 2 <;> cases a 3 <;> rfl
  · show _ = a 2
    cases a 0 <;> cases a 1 <;> cases a 2 <;> cases a 3 <;> rfl
  · show _ = a 3
    cases a 0 <;> cases a 1 <;> cases a 2 <;> cases a 3 <;> rfl

set_option maxRecDepth 100000 in
set_option maxHeartbeats 4000000 in
theorem smallest_walk {w : World} {a0 : Option Addr} {len cap : Nat} {zs : Nat → Int} {which : Int} (hw : Fits which) (hcode : len = 0 ∨ ∃ cb co, a0 = some ⟨cb, co, none⟩ ∧ IntsAt w cb co len zs) :
    Calls Try.prog 6 #[.slice a0 len cap, .int .i64 which] w fun e w' => e = .returned (.bool true) ∧ Keeps [] w w' := by
  have q27 : ∀ (w : World) (a : Option Addr) (n c n' c' : Nat), (binOp .eql 24 (.slice a n c) (.slice none n' c')).run Try.prog w = .ok (.bool a.isNone) w := fun w a n c n' c' => Lib.run_eql_slice_nil w _ _ a n c n' c' Try.underlying24
  go_enter Try.func6, Try.ntmps6
  go_wp2_with fail
  refine begun_any.mono ?_
  rintro e w1 ⟨s, hb, t, bn, bm, od, sz, v, ms, V, rfl, hod, hS, hG, hml, hown, hsep, hk, j1, j2, j3, j4, j5, j6⟩
  clear hod
  go_wp2_with fail
  refine (grown_all hS hG hml hown hsep hk (by simp; omega) hcode).mono ?_
  clear hS hG hml hown hsep hk
  rintro e w2 ⟨n, g, cap2, ms2, V2, sz2, rfl, h4, h28, hS, hG, hml, hown, hk⟩
  clear hcode
  have hnz : (4 : Int) ≤ (n : Int) := by omega
  have hn28 : (n : Int) ≤ 28 := by omega
  have HG : Hid (Good V2 ms2) := hG
  have Hm : Hid (ms2.length = n) := hml
  clear hG hml
  go_wp2_with fail
  refine (pick_any hw (by omega) (by omega)).mono ?_
  rintro e w3 ⟨⟨c, rfl, hc0, hc1⟩, rfl⟩
  obtain ⟨kf, rfl⟩ := Int.eq_ofNat_of_zero_le hc0
  have lf : kf < n := by omega
  obtain ⟨m, hm⟩ : ∃ m, m = ms2[kf]'(by rw [Hm.out]; exact lf) := ⟨_, rfl⟩
  have rf : w2.rangeAt g (kf * 17) (mL m) := by rw [hm]; exact range_of hown Hm.out kf _
  obtain ⟨em, F, hV, hF, _⟩ := HG.out kf (by rw [Hm.out]; exact lf)
  rw [← hm] at em hF
  rw [← em] at hV
  have HV : Hid (V2 m.1 = some F) := hV
  have HF : Hid (∀ i, i < 16 → F (asg i) = m.2 i) := hF
  have hdep := hS.dep hV
  obtain ⟨W1, hW1⟩ : ∃ W1, W1 = w2.alloc (.cells (mA m.1 m.2) 31) := ⟨_, rfl⟩
  have y1 : Keeps [] w2 W1 := by rw [hW1]; exact (Keeps.refl _ _).alloc _
  have hF1 : Full W1 w2.heap.size m := by rw [hW1]; exact full_start _ _
  have H1 : Hid (W1 = w2.alloc (.cells (mA m.1 m.2) 31)) := hW1
  clear hW1 hm em hV hF
  go_upto_region 8 with (first
    | (refine wpList_load_mid rfl 31 _ rfl g (kf * 17) rfl _ _ rf Try.underlying31 rfl size34 ?_)
    | (refine wpList_store_mid rfl 31 _ _ rfl w2.heap.size 0 (mA m.1 m.2) rfl rfl (there34 w2 zA 17 (by decide)) size34 (one34 _ _) ?_; rw [store34, ← H1.out])
    | fail)
  go_frame
  generalize hB : w2.heap.size = B at *
  clear hB
  have v1 := hF1.1
  have hSw := hS.keeps y1
  go_wp2_with fail
  refine (least_call hSw HV.out).mono ?_
  rintro e w5 ⟨hk5, ⟨hno, rfl⟩ | ⟨a, g2, ha, hmin, hg2, rfl, hcells⟩⟩
  · have hF5 := hF1.keeps hk5 (by simp)
    have hall : ∀ i, i < 16 → m.2 i = false := fun i hi => by rw [← HF.out i hi]; exact hno _
    have HA : Hid (∀ i, i < 16 → m.2 i = false) := hall
    clear hall hno v1
    go_wp2_with fail
    go_loopw [10] (fun x wq => ∃ k : Nat, k ≤ 16 ∧ x = .int .i64 k ∧ wq = w5) (fun x _ => 16 - (intOf x).toNat)
    case atStart => exact ⟨0, by omega, rfl, rfl⟩
    case round =>
      obtain ⟨k, hk16, rfl, rfl⟩ := hrel
      by_cases hlt : k < 16
      · have hk0 : (0 : Int) ≤ (k : Int) := by omega
        have hk1 : (k : Int) < 16 := by omega
        have hck := hF5.2 k hlt
        rw [HA.out k hlt] at hck
        go_wp2_with fail
        go_roundw
        case rel => exact ⟨k + 1, by omega, by go_num, trivial⟩
        case measure => simp [intOf]; omega
      · have e : k = 16 := by omega
        subst e
        go_wp2_with fail
        go_ret
        exact ⟨rfl, (hk.trans y1).trans hk5⟩
  · have hF5 := hF1.keeps hk5 (by simp)
    obtain ⟨x, hx⟩ : ∃ x, x = bin a 4 := ⟨_, rfl⟩
    have hx16 : x < 16 := by rw [hx]; exact bin_lt a 4
    have hax : ∀ k : Nat, k < 4 → asg x k = a k := by rw [hx]; exact asg_bin a
    have hmx : m.2 x = true := by
      rw [← HF.out x hx16, ← ha]
      refine hdep _ _ (fun i h0 h1 => ?_)
      obtain ⟨k, rfl⟩ := Int.eq_ofNat_of_zero_le h0
      exact hax k (by omega)
    have hlow : ∀ i, i < x → m.2 i = false := fun i hi => by
      cases hmi : m.2 i with
      | false => rfl
      | true =>
        have h1 := hmin (asg i) (by rw [HF.out i (by omega)]; exact hmi)
        rw [← hx, bin_asg i (by omega)] at h1
        omega
    have HL : Hid (∀ i, i < x → m.2 i = false) := hlow
    have HX : Hid (m.2 x = true) := hmx
    have HAX : Hid (∀ k : Nat, k < 4 → asg x k = a k) := hax
    have HC : Hid (∀ i : Nat, i < 4 → w5.cell? ⟨g2, i, none⟩ = some (.bool (a i))) := hcells
    clear hlow hmx hax hcells hmin ha hx v1 hdep
    go_wp2_with fail
    go_loopw [10] (fun y wq => ∃ k : Nat, k ≤ x ∧ y = .int .i64 k ∧ wq = w5) (fun y _ => 16 - (intOf y).toNat)
    case atStart => exact ⟨0, by omega, rfl, rfl⟩
    case round =>
      obtain ⟨k, hkx, rfl, rfl⟩ := hrel
      have hk0 : (0 : Int) ≤ (k : Int) := by omega
      have hk1 : (k : Int) < 16 := by omega
      have hck := hF5.2 k (by omega)
      by_cases hlt : k < x
      · rw [HL.out k hlt] at hck
        go_wp2_with fail
        go_roundw
        case rel => exact ⟨k + 1, by omega, by go_num, trivial⟩
        case measure => simp [intOf]; omega
      · have e : k = x := by omega
        subst e
        rw [HX.out] at hck
        go_wp2_with fail
        refine (assignment_any hx16).mono ?_
        rintro e w6 ⟨g3, cap3, rfl, htr, hg3, hk6⟩
        have hwr : g2 < wr.heap.size := cell_lt (p := ⟨g2, 0, none⟩) (HC.out 0 (by omega))
        have htr' : Hid (Truths w6 g3 0 4 (asg k)) := htr
        clear htr
        go_wp2_with fail
        go_loopw [12] (fun y wq => ∃ q : Nat, q ≤ 4 ∧ y = .int .i64 q ∧ Keeps [] w6 wq) (fun y _ => 4 - (intOf y).toNat)
        case atStart => exact ⟨0, by omega, rfl, Keeps.refl _ _⟩
        case round =>
          obtain ⟨q, hq, rfl, hkq⟩ := hrel
          by_cases hltq : q < 4
          · have hq0 : (0 : Int) ≤ (q : Int) := by omega
            have hq1 : (q : Int) < 4 := by omega
            have f1 := hkq.cell (hk6.cell (HC.out q hltq) (by simp)) (by simp)
            have f2 := hkq.cell (htr'.out q hltq) (by simp)
            rw [Nat.zero_add, HAX.out q hltq] at f2
            have hbb : (a (q : Int) != a (q : Int)) = false := by simp
            go_wp2_with fail
            go_quiet (fail)
            go_wp2_with fail
            go_roundw
            case rel => exact ⟨q + 1, by omega, by go_num, hkq.drewN nq⟩
            case measure => simp [intOf]; omega
          · have e : q = 4 := by omega
            subst e
            go_wp2_with fail
            go_ret
            exact ⟨rfl, (((hk.trans y1).trans hk5).trans hk6).trans hkq⟩

end Go.Proofs.Ytmgjegokkbghlaa
