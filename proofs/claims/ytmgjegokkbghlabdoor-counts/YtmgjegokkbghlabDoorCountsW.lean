/- Counts, walked. -/
import Derived.Test.YtmgjegokkbghlabDoorCounter
import Derived.Test.YtmgjegokkbghlabDoorCheckC
namespace Go.Proofs.YtmgjegokkbghlabDoor
open Go.RowKit Go.Maps Circ Gram Runs
set_option linter.unusedVariables false
attribute [local go_sem ↓] Go.wp_at_zero Go.wp_at_succ

theorem dig_zero : ∀ n, n < 5 → ∀ i, i < n → dig n 0 i = false := by decide
/-- what Check answers to a circuit that counts -/
def CountIs (w' : World) (n P : Nat) (odd : Bool) (e : Ending) : Prop := ∃ (S V : Nat) (bk : Nat → Nat), e = .returned (.tuple #[.agg #[.bool false, .int .i64 0, .slice (some ⟨S, 0, none⟩) n n, .slice (some ⟨V, 0, none⟩) P P], .int .i64 0, .int .i64 0]) ∧
  (∀ i, i < n → w'.cell? ⟨S, i, none⟩ = some (.bool false)) ∧ (∀ j, j < P → w'.cell? ⟨V, j, none⟩ = some (.slice (some ⟨bk j, 0, none⟩) 2 2)) ∧ (∀ j, j + 1 < P → w'.cell? ⟨bk j, if odd then 1 else 0, none⟩ = some (.bool true)) ∧ w'.cell? ⟨bk (P - 1), if odd then 0 else 1, none⟩ = some (.bool true)
theorem count_check {w : World} (hG : Glob w) {n p : Nat} (odd : Bool) (hn : 1 ≤ n) (hn4 : n ≤ 4) (hp : p < 20) :
    Calls Tryd.prog 7 #[.string (mk (txtC p n odd))] w fun e w' => CountIs w' n (2 ^ n) odd e ∧ Keeps [] w w' := by
  obtain ⟨ls, hok, hL, hI, hc⟩ := read_C odd hn hn4 hp
  refine (check_any hG (mk (txtC p n odd))).mono ?_
  rintro e w' ⟨h, hk⟩
  refine ⟨?_, hk⟩
  unfold CheckIs at h
  rw [bl_mk, hok] at h
  obtain ⟨v, rfl, hv⟩ := h
  rcases hv with ⟨_, hs⟩ | ⟨k, s0, is, S, V, bk, ht, _, rfl, hm, hls, _⟩
  · exact absurd hc.bad_at (hs _)
  obtain ⟨h0, hkT, hgo, hsay⟩ := hc.told ht
  have hP : 1 ≤ 2 ^ n := Nat.one_le_two_pow
  have hk1 : k + 1 = 2 ^ n := by omega
  rw [hL] at hm
  rw [hI, hk1] at hls
  refine ⟨S, V, bk, by rw [hL, hk1], fun i hi => ?_, fun j hj => ?_, fun j hj => ?_, ?_⟩
  · have := (hm i hi).1
    rw [h0, dig_zero n (by omega) i hi] at this
    exact this
  · exact ((hls j hj).2.2 (by omega)).1
  · have h1 := ((hls j (by omega)).2.2 (by omega)).2.1
    have h2 := hgo j (by omega)
    unfold goC at h2
    have h3 := (h1 (if odd then 1 else 0) (by split <;> omega)).1
    rw [h3]
    exact congrArg (fun b => some (Value.bool b)) h2
  · have h1 := ((hls (2 ^ n - 1) (by omega)).2.2 (by omega)).2.1
    have h2 := hsay
    rw [show k = 2 ^ n - 1 by omega] at h2
    unfold sayC at h2
    have h3 := (h1 (if odd then 0 else 1) (by split <;> omega)).1
    rw [h3]
    exact congrArg (fun b => some (Value.bool b)) h2

set_option maxRecDepth 100000 in
set_option maxHeartbeats 2000000 in
theorem counts_walk {w : World} (hG : Glob w) {latches more way : Int} (h1 : FitsI latches) (h2 : FitsI more) (h3 : FitsI way) :
    Calls Tryd.prog 3 #[.int .i64 latches, .int .i64 more, .int .i64 way] w fun e w' => e = .returned (.bool true) ∧ Keeps [] w w' := by
  have p1 := pickF_lt latches (n := 4) (by omega)
  have p2 := pickF_lt more (n := 20) (by omega)
  obtain ⟨n1, hn1⟩ : ∃ n1 : Nat, (n1 : Int) = pickF latches 4 := ⟨(pickF latches 4).toNat, by omega⟩
  obtain ⟨p, hp⟩ : ∃ p : Nat, (p : Int) = pickF more 20 := ⟨(pickF more 20).toNat, by omega⟩
  have hp20 : p < 20 := by omega
  obtain ⟨n, hn⟩ : ∃ n : Nat, n = n1 + 1 := ⟨_, rfl⟩
  have hn4 : 1 ≤ n ∧ n ≤ 4 := by omega
  have hne : (1 : Int) + (n1 : Int) = (n : Int) := by omega
  obtain ⟨odd, hodd⟩ : ∃ odd, odd = oddW way := ⟨_, rfl⟩
  have hbt : (odd = true ∧ (way.tmod 2 == 0) = false) ∨ (odd = false ∧ (way.tmod 2 == 0) = true) := by
    rw [hodd]
    unfold oddW
    cases way.tmod 2 == 0
    · exact Or.inl ⟨rfl, rfl⟩
    · exact Or.inr ⟨rfl, rfl⟩
  obtain ⟨P, hP⟩ : ∃ P : Nat, P = 2 ^ n := ⟨_, rfl⟩
  have hPn : 2 ≤ P ∧ P ≤ 16 := by
    rw [hP]
    exact ⟨Nat.pow_le_pow_right (n := 2) (i := 1) (by omega) hn4.1, Nat.pow_le_pow_right (n := 2) (j := 4) (by omega) hn4.2⟩
  have hsh : wrap64 (2 ^ n) = (P : Int) := by rw [wrap_pow n (by omega), hP]
  have hpow : (2 : Int) ^ n = (P : Int) := by rw [hP, Int.natCast_pow]; rfl
  have hsh2 : IntKind.i64.wrap ((2 : Int) ^ n) = (P : Int) := by rw [hpow]; exact IntWalk.i64_in _ ⟨by omega, by omega⟩
  clear hpow
  have HC1 := hid_intro (pickF_any (w := w) h1 (n := 4) (by omega) (by omega))
  have HCt := hid_intro (counter_any (w := w) (n := n) hn4.2 h2 h3 hp)
  rw [← hn1] at HC1
  rw [← hodd] at HCt
  have HChk : Hid (∀ w : World, Glob w → Calls Tryd.prog 7 #[.string (mk (txtC p n odd))] w fun e w' => CountIs w' n P odd e ∧ Keeps [] w w') := fun w hG => by rw [hP]; exact count_check hG odd hn4.1 hn4.2 hp20
  clear hn1 hp p1 p2 hn hodd hP
  go_enter Tryd.func3, Tryd.ntmps3
  go_wp2_with fail
  refine Calls.mono HC1.out ?_
  rintro e w1 ⟨rfl, rfl⟩
  clear HC1
  go_wp2_with fail
  clear hne
  refine Calls.mono HCt.out ?_
  rintro e w1 ⟨rfl, hk1⟩
  clear HCt
  go_wp2_with fail
  refine Calls.mono (HChk.out w1 (hG.keeps hk1)) ?_
  rintro e w2 ⟨⟨S, V, bk, rfl, hS, hV, hgo, hsay⟩, hk2⟩
  clear HChk
  obtain ⟨w3, hw3⟩ : ∃ w3, w3 = w2.alloc (.cells #[.bool false, .int .i64 0, .slice (some ⟨S, 0, none⟩) n n, .slice (some ⟨V, 0, none⟩) P P] 26) := ⟨_, rfl⟩
  obtain ⟨D, hD⟩ : ∃ D, D = w2.heap.size := ⟨_, rfl⟩
  have hk3 : Keeps [] w2 w3 := by rw [hw3]; exact (Keeps.refl _ _).alloc _
  have d0 : w3.cell? ⟨D, 0, none⟩ = some (.bool false) := by rw [hw3, hD, World.cell?_alloc_at _ _ _ _ rfl]; rfl
  have d1 : w3.cell? ⟨D, 1, none⟩ = some (.int .i64 0) := by rw [hw3, hD, World.cell?_alloc_at _ _ _ _ rfl]; rfl
  have d2 : w3.cell? ⟨D, 2, none⟩ = some (.slice (some ⟨S, 0, none⟩) n n) := by rw [hw3, hD, World.cell?_alloc_at _ _ _ _ rfl]; rfl
  have d3 : w3.cell? ⟨D, 3, none⟩ = some (.slice (some ⟨V, 0, none⟩) P P) := by rw [hw3, hD, World.cell?_alloc_at _ _ _ _ rfl]; rfl
  have HS := hid_intro (fun i hi => hk3.cell (hS i hi) (by simp))
  have HV := hid_intro (fun i hi => hk3.cell (hV i hi) (by simp))
  have HGo := hid_intro (fun i hi => hk3.cell (hgo i hi) (by simp))
  have HSay := hid_intro (hk3.cell hsay (by simp))
  have hkw : Keeps [] w w3 := (hk1.trans hk2).trans hk3
  clear hS hV hgo hsay
  have D0 := hid_intro d0
  have D1 := hid_intro d1
  go_wp2_with fail
  rw [← hw3, ← hD]
  clear hw3 hD
  have s0 : w3.drew.cell? ⟨D, 0, none⟩ = some (.bool false) ∧ w3.drew.cell? ⟨D, 1, none⟩ = some (.int .i64 0) ∧ w3.drew.cell? ⟨D, 2, none⟩ = some (.slice (some ⟨S, 0, none⟩) n n) ∧ w3.drew.cell? ⟨D, 3, none⟩ = some (.slice (some ⟨V, 0, none⟩) P P) := ⟨d0, d1, d2, d3⟩
  go_region_held3 (fun w' => w'.cell? ⟨D, 0, none⟩ = some (.bool false) ∧ w'.cell? ⟨D, 1, none⟩ = some (.int .i64 0) ∧ w'.cell? ⟨D, 2, none⟩ = some (.slice (some ⟨S, 0, none⟩) n n) ∧ w'.cell? ⟨D, 3, none⟩ = some (.slice (some ⟨V, 0, none⟩) P P))
    (first | exact s0 | assumption)
    (fail)
  clear s0 d0 d1
  obtain ⟨w4, hw4⟩ : ∃ w4, w4 = w3.drew := ⟨_, rfl⟩
  have hk4 : Keeps [] w3 w4 := by rw [hw4]; exact (Keeps.refl _ _).drew
  have hkw4 : Keeps [] w w4 := hkw.trans hk4
  have HS4 := hid_intro (fun i hi => hk4.cell (HS.out i hi) (by simp))
  have HV4 := hid_intro (fun i hi => hk4.cell (HV.out i hi) (by simp))
  have HGo4 := hid_intro (fun i hi => hk4.cell (HGo.out i hi) (by simp))
  have HSay4 := hid_intro (hk4.cell HSay.out (by simp))
  have e2 := hk4.cell d2 (by simp)
  have E3 := hid_intro (hk4.cell d3 (by simp))
  go_wp2_with fail
  rw [← hw4]
  clear hw4 d2 d3 HS HV HGo HSay
  go_loopw [11] (fun x wq => ∃ i : Nat, i ≤ n ∧ x = .int .i64 i ∧ wq = w4) (fun x _ => n - (intOf x).toNat)
  case atStart => exact ⟨0, by omega, rfl, rfl⟩
  case round =>
    obtain ⟨i, hi, rfl, hwq⟩ := hrel
    have hwq := hwq.symm
    subst hwq
    by_cases hin : i < n
    · have hi0 : (0 : Int) ≤ (i : Int) := by omega
      have hi1 : (i : Int) < (n : Int) := by omega
      have hc := HS4.out i hin
      go_wp2_with fail
      exact ⟨⟨i + 1, by omega, by go_num, trivial⟩, by simp [intOf]; omega⟩
    · obtain rfl : i = n := by omega
      clear e2
      rcases hbt with ⟨rfl, hb⟩ | ⟨rfl, hb⟩
      · have e2 : w4.cell? ⟨D, 3, none⟩ = some (.slice (some ⟨V, 0, none⟩) P P) := E3.out
        go_wp2_with fail
        go_loopw [14] (fun x wq => ∃ j : Nat, j ≤ P ∧ x = .int .i64 j ∧ wq = w4) (fun x _ => P - (intOf x).toNat)
        case atStart => exact ⟨0, by omega, rfl, rfl⟩
        case round =>
          obtain ⟨j, hj, rfl, hwq⟩ := hrel
          have hwq := hwq.symm
          subst hwq
          by_cases hjP : j < P
          · have hj0 : (0 : Int) ≤ (j : Int) := by omega
            have hj1 : (j : Int) < (P : Int) := by omega
            have hv := HV4.out j hjP
            by_cases hlast : j + 1 < P
            · have hg : w4.cell? ⟨bk j, 1, none⟩ = some (.bool true) := HGo4.out j hlast
              have hl1 : (j : Int) < (P : Int) - 1 := by omega
              go_wp2_with fail
              exact ⟨⟨j + 1, by omega, by go_num, trivial⟩, by simp [intOf]; omega⟩
            · have hl1 : ¬ (j : Int) < (P : Int) - 1 := by omega
              have hl2 : (P : Int) - 1 ≤ (j : Int) := by omega
              go_wp2_with fail
              exact ⟨⟨j + 1, by omega, by go_num, trivial⟩, by simp [intOf]; omega⟩
          · obtain rfl : j = P := by omega
            obtain ⟨q, hq⟩ : ∃ q, j = q + 1 := ⟨j - 1, by omega⟩
            have hv := HV4.out q (by omega)
            have hs : w4.cell? ⟨bk q, 0, none⟩ = some (.bool true) := by
              have := HSay4.out
              rw [show j - 1 = q by omega] at this
              exact this
            have hjq : (j : Int) - 1 = (q : Int) := by omega
            have hq0 : (0 : Int) ≤ (q : Int) := by omega
            have hq1 : (q : Int) < (j : Int) := by omega
            clear hq
            go_wp2_with fail
            go_ret
            exact ⟨rfl, hkw4⟩
      · have e2 : w4.cell? ⟨D, 3, none⟩ = some (.slice (some ⟨V, 0, none⟩) P P) := E3.out
        go_wp2_with fail
        go_loopw [14] (fun x wq => ∃ j : Nat, j ≤ P ∧ x = .int .i64 j ∧ wq = w4) (fun x _ => P - (intOf x).toNat)
        case atStart => exact ⟨0, by omega, rfl, rfl⟩
        case round =>
          obtain ⟨j, hj, rfl, hwq⟩ := hrel
          have hwq := hwq.symm
          subst hwq
          by_cases hjP : j < P
          · have hj0 : (0 : Int) ≤ (j : Int) := by omega
            have hj1 : (j : Int) < (P : Int) := by omega
            have hv := HV4.out j hjP
            by_cases hlast : j + 1 < P
            · have hg : w4.cell? ⟨bk j, 0, none⟩ = some (.bool true) := HGo4.out j hlast
              have hl1 : (j : Int) < (P : Int) - 1 := by omega
              go_wp2_with fail
              exact ⟨⟨j + 1, by omega, by go_num, trivial⟩, by simp [intOf]; omega⟩
            · have hl1 : ¬ (j : Int) < (P : Int) - 1 := by omega
              have hl2 : (P : Int) - 1 ≤ (j : Int) := by omega
              go_wp2_with fail
              exact ⟨⟨j + 1, by omega, by go_num, trivial⟩, by simp [intOf]; omega⟩
          · obtain rfl : j = P := by omega
            obtain ⟨q, hq⟩ : ∃ q, j = q + 1 := ⟨j - 1, by omega⟩
            have hv := HV4.out q (by omega)
            have hs : w4.cell? ⟨bk q, 1, none⟩ = some (.bool true) := by
              have := HSay4.out
              rw [show j - 1 = q by omega] at this
              exact this
            have hjq : (j : Int) - 1 = (q : Int) := by omega
            have hq0 : (0 : Int) ≤ (q : Int) := by omega
            have hq1 : (q : Int) < (j : Int) := by omega
            clear hq
            go_wp2_with fail
            go_ret
            exact ⟨rfl, hkw4⟩

end Go.Proofs.YtmgjegokkbghlabDoor
