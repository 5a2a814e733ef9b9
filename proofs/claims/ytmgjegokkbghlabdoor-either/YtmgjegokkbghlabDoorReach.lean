/- Reached, walked. -/
import Derived.Test.YtmgjegokkbghlabDoorNameT
namespace Go.Proofs.YtmgjegokkbghlabDoor
open Go.RowKit Go.Maps Circ Gram Runs
set_option linter.unusedVariables false

/-- what is asked of Check here -/
def CheckL (t : List UInt8) (e : Ending) : Prop := match readP t with
  | .err k line => e = .returned (.tuple #[.agg #[.bool false, .int .i64 0, .slice none 0 0, .slice none 0 0], .int .i64 (k : Int), .int .i64 (line : Int)])
  | .ok ls => (∀ j, ¬ BadAt (sysOf ls) j) → e = .returned (.tuple #[.agg #[.bool true, .int .i64 (Runs.howMany (sysOf ls) : Int), .slice none 0 0, .slice none 0 0], .int .i64 0, .int .i64 0])
theorem txtR_len (how p : Nat) : ∀ k, k ≤ 5 → (txtR how p k).1.length ≤ 16 + 22 * k ∧ (txtR how p k).2.length ≤ 2
  | 0, _ => by
    refine ⟨by simp [txtR, nmT], ?_⟩
    simp only [txtR, comR]
    split <;> simp [nmT]
  | k + 1, h => by
    have := txtR_len how p k (by omega)
    refine ⟨?_, by simp [txtR, nmT]⟩
    have hf : (firR how).length = 1 := by unfold firR; split <;> rfl
    simp only [txtR, List.length_append, hf, nmT, List.length_cons, List.length_nil]
    omega
theorem wrap_powT (n : Nat) (hn : n < 5) : wrap64 (2 ^ n) = ((2 ^ n : Nat) : Int) := by
  have h1 : (2 : Int) ^ n = ((2 ^ n : Nat) : Int) := by rw [Int.natCast_pow]; rfl
  have h2 : 2 ^ n ≤ 2 ^ 4 := Nat.pow_le_pow_right (by omega) (by omega)
  rw [h1]
  obtain ⟨P, hP⟩ : ∃ P, P = 2 ^ n := ⟨_, rfl⟩
  rw [← hP] at h2 ⊢
  exact IntWalk.wrap64_in _ ⟨by omega, by omega⟩

set_option maxRecDepth 100000 in
set_option maxHeartbeats 4000000 in
theorem reached_walk {w : World} (hchk : ∀ (w : World) (s : ByteArray), Glob w → Calls Tryd.prog 7 #[.string s] w fun e w' => CheckL (bl s) e ∧ Keeps [] w w') (hG : Glob w) {latches more how : Int} (h1 : FitsI latches) (h2 : FitsI more) (h3 : FitsI how) :
    Calls Tryd.prog 4 #[.int .i64 latches, .int .i64 more, .int .i64 how] w fun e w' => e = .returned (.bool true) ∧ Keeps [] w w' := by
  have p1 := pickF_lt latches (n := 4) (by omega)
  have p2 := pickF_lt more (n := 20) (by omega)
  have p3 := pickF_lt how (n := 3) (by omega)
  obtain ⟨n1, hn1⟩ : ∃ n1 : Nat, (n1 : Int) = pickF latches 4 := ⟨(pickF latches 4).toNat, by omega⟩
  obtain ⟨p, hp⟩ : ∃ p : Nat, (p : Int) = pickF more 20 := ⟨(pickF more 20).toNat, by omega⟩
  obtain ⟨q, hq⟩ : ∃ q : Nat, (q : Int) = pickF how 3 := ⟨(pickF how 3).toNat, by omega⟩
  have hp20 : p < 20 := by omega
  have hq3 : q < 3 := by omega
  obtain ⟨n, hn⟩ : ∃ n : Nat, n = n1 + 1 := ⟨_, rfl⟩
  have hn4 : 1 ≤ n ∧ n ≤ 4 := by omega
  have hne : (1 : Int) + (n1 : Int) = (n : Int) := by omega
  have HRd := hid_intro (read_R hn4.1 hn4.2 hq3 hp20)
  have HChk := hid_intro hchk
  have HC1 := hid_intro (pickF_any (w := w) h1 (n := 4) (by omega) (by omega))
  have HN : Hid (∀ (w : World) (c : UInt8) (k : Nat), k < 5 → Calls Tryd.prog 9 #[.string (mk [c]), .int .i64 (k : Int), .int .i64 more] w fun e w' => e = .returned (.string (mk (nmT c p k))) ∧ Keeps [] w w') := fun w c k hk => name_any h2 hk hp
  have HQ : Hid (∀ w : World, Calls Tryd.prog 6 #[.int .i64 how, .int .i64 3] w fun e w' => e = .returned (.int .i64 (q : Int)) ∧ w = w') := fun w => by rw [hq]; exact pickF_any h3 (by omega) (by omega)
  rw [← hn1] at HC1
  clear hchk hn1 hp hq p1 p2 p3 hn
  go_enter Tryd.func4, Tryd.ntmps4
  go_wp2_with fail
  refine Calls.mono HC1.out ?_
  rintro e w1 ⟨rfl, rfl⟩
  clear HC1
  go_wp2_with fail
  clear hne
  refine Calls.mono (HN.out _ 103 0 (by omega)) ?_
  rintro e w1 ⟨rfl, hk1⟩
  go_wp2_with fail
  refine Calls.mono (HQ.out _) ?_
  rintro e w2 ⟨rfl, rfl⟩
  have hq012 : q = 0 ∨ q = 1 ∨ q = 2 := by omega
  have zg : ByteArray.size (mk (nmT 103 p 0)) = 2 := rfl
  have zl : ByteArray.size (mk (nmT 108 p 0)) = 2 := rfl
  clear HQ hq3
  rcases hq012 with rfl | rfl | rfl
  · go_wp2_with fail
    refine Calls.mono (HN.out _ 103 0 (by omega)) ?_
    rintro e w3 ⟨rfl, hk3⟩
    go_wp2_with fail
    refine Calls.mono (HN.out _ 108 0 (by omega)) ?_
    rintro e w4 ⟨rfl, hk4⟩
    go_wp2_with fail
    refine Calls.mono (HN.out _ 108 0 (by omega)) ?_
    rintro e w5 ⟨rfl, hk5⟩
    have hk05 : Keeps [] w w5 := ((hk1.trans hk3).trans hk4).trans hk5
    go_wp2_with fail
    go_loopw [9, 11, 12] (fun y9 y11 y12 wr => ∃ k : Nat, k ≤ n ∧ y12 = .int .i64 k ∧ y9 = .string (mk (txtR 0 p k).2) ∧ y11 = .string (mk (txtR 0 p k).1) ∧ Keeps [] w wr) (fun _ _ y12 _ => n - (intOf y12).toNat)
    case atStart => exact ⟨0, by omega, rfl, rfl, rfl, hk05⟩
    case round =>
      clear hk1 hk3 hk4 hk5 hk05
      obtain ⟨k, hk, rfl, rfl, rfl, hkw⟩ := hrel
      by_cases hkn : k < n
      · have hi0 : (0 : Int) ≤ (k : Int) := by omega
        have hi1 : (k : Int) < (n : Int) := by omega
        have zk : ByteArray.size (mk (nmT 108 p k)) = 2 := rfl
        obtain ⟨S1, hS1⟩ : ∃ S1, ByteArray.size (mk (txtR 0 p k).1) = S1 := ⟨_, rfl⟩
        obtain ⟨S2, hS2⟩ : ∃ S2, ByteArray.size (mk (txtR 0 p k).2) = S2 := ⟨_, rfl⟩
        have hSb : S1 ≤ 1000 ∧ S2 ≤ 10 := by
          have := txtR_len 0 p k (by omega)
          rw [mk_size] at hS1 hS2
          omega
        have o1 : ¬ 9223372036854775807 < S1 + 7 := by omega
        have o2 : ¬ 9223372036854775807 < S1 + 7 + 2 := by omega
        have o3 : ¬ 9223372036854775807 < S1 + 7 + 2 + 1 := by omega
        have o4 : ¬ 9223372036854775807 < S1 + 7 + 2 + 1 + 1 := by omega
        have o5 : ¬ 9223372036854775807 < S1 + 7 + 2 + 1 + 1 + 6 := by omega
        have o6 : ¬ 9223372036854775807 < S1 + 7 + 2 + 1 + 1 + 6 + 2 := by omega
        have o7 : ¬ 9223372036854775807 < S1 + 7 + 2 + 1 + 1 + 6 + 2 + 1 := by omega
        have o8 : ¬ 9223372036854775807 < S1 + 7 + 2 + 1 + 1 + 6 + 2 + 1 + S2 := by omega
        go_wp2_with fail
        refine Calls.mono (HN.out _ 108 k (by omega)) ?_
        rintro e w6 ⟨rfl, hk6⟩
        go_wp2_with fail
        refine Calls.mono (HN.out _ 108 k (by omega)) ?_
        rintro e w7 ⟨rfl, hk7⟩
        go_wp2_with fail
        refine Calls.mono (HN.out _ 108 k (by omega)) ?_
        rintro e w8 ⟨rfl, hk8⟩
        go_wp2_with fail
        exact ⟨⟨k + 1, by omega, by go_num, rfl, rfl, ((hkw.trans hk6).trans hk7).trans hk8⟩, by simp [intOf]; omega⟩
      · obtain rfl : k = n := by omega
        obtain ⟨⟨ls, hok, hsafe, hmany⟩, htw⟩ := HRd.out
        have c1 := HChk.out wr (mk (txtR 0 p k).1) (hG.keeps hkw)
        unfold CheckL at c1
        rw [bl_mk, hok] at c1
        have HC1 := hid_intro c1
        have HSafe := hid_intro hsafe
        have HMany := hid_intro hmany
        have HTw := hid_intro htw
        clear c1 hok hsafe hmany htw HRd
        go_wp2_with fail
        refine Calls.mono HC1.out ?_
        rintro e w6 ⟨he, hk6⟩
        have he := he HSafe.out
        rw [HMany.out] at he
        subst he
        obtain ⟨S1, hS1⟩ : ∃ S1, ByteArray.size (mk (txtR 0 p k).1) = S1 := ⟨_, rfl⟩
        have hSb : S1 ≤ 1000 := by
          have := txtR_len 0 p k (by omega)
          rw [mk_size] at hS1
          omega
        have o1 : ¬ 9223372036854775807 < S1 + 8 := by omega
        have hGw : Glob w6 := (hG.keeps hkw).keeps hk6
        have hcat : mk (txtR 0 p k).1 ++ (⟨#[10, 98, 97, 100, 32, 61, 32, 49]⟩ : ByteArray) = mk ((txtR 0 p k).1 ++ [10, 98, 97, 100, 32, 61, 32, 49]) := mk_app _ [10, 98, 97, 100, 32, 61, 32, 49]
        have c2 := HChk.out (w6.alloc (.cells #[.bool true, .int .i64 (wantR 0 k : Int), .slice none 0 0, .slice none 0 0] 26)) (mk ((txtR 0 p k).1 ++ [10, 98, 97, 100, 32, 61, 32, 49])) (hGw.keeps ((Keeps.refl _ _).alloc _))
        unfold CheckL at c2
        rw [bl_mk, HTw.out] at c2
        rw [← hcat] at c2
        have HC2 := hid_intro c2
        clear c2 hcat HC1
        go_wp2_with fail
        refine Calls.mono HC2.out ?_
        rintro e w7 ⟨rfl, hk7⟩
        have hk67 : Keeps [] w6 w7 := ((Keeps.refl [] w6).alloc _).trans hk7
        have d0 : w7.cell? ⟨w6.heap.size, 0, none⟩ = some (.bool true) := hk7.cell (by rw [World.cell?_alloc_at _ _ _ _ rfl]; rfl) (by simp)
        have d1 : w7.cell? ⟨w6.heap.size, 1, none⟩ = some (.int .i64 (wantR 0 k : Int)) := hk7.cell (by rw [World.cell?_alloc_at _ _ _ _ rfl]; rfl) (by simp)
        have d2 : w7.cell? ⟨w6.heap.size, 2, none⟩ = some (.slice none 0 0) := hk7.cell (by rw [World.cell?_alloc_at _ _ _ _ rfl]; rfl) (by simp)
        have d3 : w7.cell? ⟨w6.heap.size, 3, none⟩ = some (.slice none 0 0) := hk7.cell (by rw [World.cell?_alloc_at _ _ _ _ rfl]; rfl) (by simp)
        have hk8 : Keeps [] w7 (w7.alloc (.cells #[.bool false, .int .i64 0, .slice none 0 0, .slice none 0 0] 26)) := (Keeps.refl _ _).alloc _
        have x0 : (w7.alloc (.cells #[.bool false, .int .i64 0, .slice none 0 0, .slice none 0 0] 26)).cell? ⟨w6.heap.size, 0, none⟩ = some (.bool true) := hk8.cell d0 (by simp)
        have x1 : (w7.alloc (.cells #[.bool false, .int .i64 0, .slice none 0 0, .slice none 0 0] 26)).cell? ⟨w6.heap.size, 1, none⟩ = some (.int .i64 1) := by
          have := hk8.cell d1 (by simp)
          rw [show wantR 0 k = 1 by rfl] at this
          exact this
        have x2 : (w7.alloc (.cells #[.bool false, .int .i64 0, .slice none 0 0, .slice none 0 0] 26)).cell? ⟨w6.heap.size, 2, none⟩ = some (.slice none 0 0) := hk8.cell d2 (by simp)
        have x3 : (w7.alloc (.cells #[.bool false, .int .i64 0, .slice none 0 0, .slice none 0 0] 26)).cell? ⟨w6.heap.size, 3, none⟩ = some (.slice none 0 0) := hk8.cell d3 (by simp)
        have y0 : (w7.alloc (.cells #[.bool false, .int .i64 0, .slice none 0 0, .slice none 0 0] 26)).cell? ⟨w7.heap.size, 0, none⟩ = some (.bool false) := by rw [World.cell?_alloc_at _ _ _ _ rfl]; rfl
        have g1 : IntKind.i64.wrap (2 * (k : Int)) = 2 * (k : Int) := IntWalk.i64_in _ ⟨by omega, by omega⟩
        have g2 : IntKind.i64.wrap (3 + 2 * (k : Int)) = 3 + 2 * (k : Int) := IntWalk.i64_in _ ⟨by omega, by omega⟩
        skip
        clear d0 d1 d2 d3 HC2
        go_wp2_with fail
        go_ret
        exact ⟨rfl, ((hkw.trans hk6).trans hk67).alloc _⟩
  · go_wp2_with fail
    refine Calls.mono (HN.out _ 103 0 (by omega)) ?_
    rintro e w3 ⟨rfl, hk3⟩
    go_wp2_with fail
    refine Calls.mono (HN.out _ 108 0 (by omega)) ?_
    rintro e w4 ⟨rfl, hk4⟩
    go_wp2_with fail
    refine Calls.mono (HN.out _ 108 0 (by omega)) ?_
    rintro e w5 ⟨rfl, hk5⟩
    have hk05 : Keeps [] w w5 := ((hk1.trans hk3).trans hk4).trans hk5
    go_wp2_with fail
    go_loopw [9, 11, 12] (fun y9 y11 y12 wr => ∃ k : Nat, k ≤ n ∧ y12 = .int .i64 k ∧ y9 = .string (mk (txtR 1 p k).2) ∧ y11 = .string (mk (txtR 1 p k).1) ∧ Keeps [] w wr) (fun _ _ y12 _ => n - (intOf y12).toNat)
    case atStart => exact ⟨0, by omega, rfl, rfl, rfl, hk05⟩
    case round =>
      clear hk1 hk3 hk4 hk5 hk05
      obtain ⟨k, hk, rfl, rfl, rfl, hkw⟩ := hrel
      by_cases hkn : k < n
      · have hi0 : (0 : Int) ≤ (k : Int) := by omega
        have hi1 : (k : Int) < (n : Int) := by omega
        have zk : ByteArray.size (mk (nmT 108 p k)) = 2 := rfl
        obtain ⟨S1, hS1⟩ : ∃ S1, ByteArray.size (mk (txtR 1 p k).1) = S1 := ⟨_, rfl⟩
        obtain ⟨S2, hS2⟩ : ∃ S2, ByteArray.size (mk (txtR 1 p k).2) = S2 := ⟨_, rfl⟩
        have hSb : S1 ≤ 1000 ∧ S2 ≤ 10 := by
          have := txtR_len 1 p k (by omega)
          rw [mk_size] at hS1 hS2
          omega
        have o1 : ¬ 9223372036854775807 < S1 + 7 := by omega
        have o2 : ¬ 9223372036854775807 < S1 + 7 + 2 := by omega
        have o3 : ¬ 9223372036854775807 < S1 + 7 + 2 + 1 := by omega
        have o4 : ¬ 9223372036854775807 < S1 + 7 + 2 + 1 + 1 := by omega
        have o5 : ¬ 9223372036854775807 < S1 + 7 + 2 + 1 + 1 + 6 := by omega
        have o6 : ¬ 9223372036854775807 < S1 + 7 + 2 + 1 + 1 + 6 + 2 := by omega
        have o7 : ¬ 9223372036854775807 < S1 + 7 + 2 + 1 + 1 + 6 + 2 + 1 := by omega
        have o8 : ¬ 9223372036854775807 < S1 + 7 + 2 + 1 + 1 + 6 + 2 + 1 + S2 := by omega
        go_wp2_with fail
        refine Calls.mono (HN.out _ 108 k (by omega)) ?_
        rintro e w6 ⟨rfl, hk6⟩
        go_wp2_with fail
        refine Calls.mono (HN.out _ 108 k (by omega)) ?_
        rintro e w7 ⟨rfl, hk7⟩
        go_wp2_with fail
        refine Calls.mono (HN.out _ 108 k (by omega)) ?_
        rintro e w8 ⟨rfl, hk8⟩
        go_wp2_with fail
        exact ⟨⟨k + 1, by omega, by go_num, rfl, rfl, ((hkw.trans hk6).trans hk7).trans hk8⟩, by simp [intOf]; omega⟩
      · obtain rfl : k = n := by omega
        obtain ⟨⟨ls, hok, hsafe, hmany⟩, htw⟩ := HRd.out
        have c1 := HChk.out wr (mk (txtR 1 p k).1) (hG.keeps hkw)
        unfold CheckL at c1
        rw [bl_mk, hok] at c1
        have HC1 := hid_intro c1
        have HSafe := hid_intro hsafe
        have HMany := hid_intro hmany
        have HTw := hid_intro htw
        clear c1 hok hsafe hmany htw HRd
        go_wp2_with fail
        refine Calls.mono HC1.out ?_
        rintro e w6 ⟨he, hk6⟩
        have he := he HSafe.out
        rw [HMany.out] at he
        subst he
        obtain ⟨S1, hS1⟩ : ∃ S1, ByteArray.size (mk (txtR 1 p k).1) = S1 := ⟨_, rfl⟩
        have hSb : S1 ≤ 1000 := by
          have := txtR_len 1 p k (by omega)
          rw [mk_size] at hS1
          omega
        have o1 : ¬ 9223372036854775807 < S1 + 8 := by omega
        have hGw : Glob w6 := (hG.keeps hkw).keeps hk6
        have hcat : mk (txtR 1 p k).1 ++ (⟨#[10, 98, 97, 100, 32, 61, 32, 49]⟩ : ByteArray) = mk ((txtR 1 p k).1 ++ [10, 98, 97, 100, 32, 61, 32, 49]) := mk_app _ [10, 98, 97, 100, 32, 61, 32, 49]
        have c2 := HChk.out (w6.alloc (.cells #[.bool true, .int .i64 (wantR 1 k : Int), .slice none 0 0, .slice none 0 0] 26)) (mk ((txtR 1 p k).1 ++ [10, 98, 97, 100, 32, 61, 32, 49])) (hGw.keeps ((Keeps.refl _ _).alloc _))
        unfold CheckL at c2
        rw [bl_mk, HTw.out] at c2
        rw [← hcat] at c2
        have HC2 := hid_intro c2
        clear c2 hcat HC1
        go_wp2_with fail
        refine Calls.mono HC2.out ?_
        rintro e w7 ⟨rfl, hk7⟩
        have hk67 : Keeps [] w6 w7 := ((Keeps.refl [] w6).alloc _).trans hk7
        have d0 : w7.cell? ⟨w6.heap.size, 0, none⟩ = some (.bool true) := hk7.cell (by rw [World.cell?_alloc_at _ _ _ _ rfl]; rfl) (by simp)
        have d1 : w7.cell? ⟨w6.heap.size, 1, none⟩ = some (.int .i64 (wantR 1 k : Int)) := hk7.cell (by rw [World.cell?_alloc_at _ _ _ _ rfl]; rfl) (by simp)
        have d2 : w7.cell? ⟨w6.heap.size, 2, none⟩ = some (.slice none 0 0) := hk7.cell (by rw [World.cell?_alloc_at _ _ _ _ rfl]; rfl) (by simp)
        have d3 : w7.cell? ⟨w6.heap.size, 3, none⟩ = some (.slice none 0 0) := hk7.cell (by rw [World.cell?_alloc_at _ _ _ _ rfl]; rfl) (by simp)
        obtain ⟨P, hP⟩ : ∃ P : Nat, P = 2 ^ k := ⟨_, rfl⟩
        rw [wrap_powT _ (by omega), ← hP]
        have hk8 : Keeps [] w7 (w7.alloc (.cells #[.bool false, .int .i64 0, .slice none 0 0, .slice none 0 0] 26)) := (Keeps.refl _ _).alloc _
        have x0 : (w7.alloc (.cells #[.bool false, .int .i64 0, .slice none 0 0, .slice none 0 0] 26)).cell? ⟨w6.heap.size, 0, none⟩ = some (.bool true) := hk8.cell d0 (by simp)
        have x1 : (w7.alloc (.cells #[.bool false, .int .i64 0, .slice none 0 0, .slice none 0 0] 26)).cell? ⟨w6.heap.size, 1, none⟩ = some (.int .i64 (P : Int)) := by
          have := hk8.cell d1 (by simp)
          rw [show wantR 1 k = P by rw [hP]; rfl] at this
          exact this
        have x2 : (w7.alloc (.cells #[.bool false, .int .i64 0, .slice none 0 0, .slice none 0 0] 26)).cell? ⟨w6.heap.size, 2, none⟩ = some (.slice none 0 0) := hk8.cell d2 (by simp)
        have x3 : (w7.alloc (.cells #[.bool false, .int .i64 0, .slice none 0 0, .slice none 0 0] 26)).cell? ⟨w6.heap.size, 3, none⟩ = some (.slice none 0 0) := hk8.cell d3 (by simp)
        have y0 : (w7.alloc (.cells #[.bool false, .int .i64 0, .slice none 0 0, .slice none 0 0] 26)).cell? ⟨w7.heap.size, 0, none⟩ = some (.bool false) := by rw [World.cell?_alloc_at _ _ _ _ rfl]; rfl
        have g1 : IntKind.i64.wrap (2 * (k : Int)) = 2 * (k : Int) := IntWalk.i64_in _ ⟨by omega, by omega⟩
        have g2 : IntKind.i64.wrap (3 + 2 * (k : Int)) = 3 + 2 * (k : Int) := IntWalk.i64_in _ ⟨by omega, by omega⟩
        clear hP
        clear d0 d1 d2 d3 HC2
        go_wp2_with fail
        go_ret
        exact ⟨rfl, ((hkw.trans hk6).trans hk67).alloc _⟩
  · go_wp2_with fail
    refine Calls.mono (HN.out _ 103 0 (by omega)) ?_
    rintro e w3 ⟨rfl, hk3⟩
    go_wp2_with fail
    refine Calls.mono (HN.out _ 108 0 (by omega)) ?_
    rintro e w4 ⟨rfl, hk4⟩
    go_wp2_with fail
    refine Calls.mono (HN.out _ 108 0 (by omega)) ?_
    rintro e w5 ⟨rfl, hk5⟩
    have hk05 : Keeps [] w w5 := ((hk1.trans hk3).trans hk4).trans hk5
    go_wp2_with fail
    go_loopw [9, 11, 12] (fun y9 y11 y12 wr => ∃ k : Nat, k ≤ n ∧ y12 = .int .i64 k ∧ y9 = .string (mk (txtR 2 p k).2) ∧ y11 = .string (mk (txtR 2 p k).1) ∧ Keeps [] w wr) (fun _ _ y12 _ => n - (intOf y12).toNat)
    case atStart => exact ⟨0, by omega, rfl, rfl, rfl, hk05⟩
    case round =>
      clear hk1 hk3 hk4 hk5 hk05
      obtain ⟨k, hk, rfl, rfl, rfl, hkw⟩ := hrel
      by_cases hkn : k < n
      · have hi0 : (0 : Int) ≤ (k : Int) := by omega
        have hi1 : (k : Int) < (n : Int) := by omega
        have zk : ByteArray.size (mk (nmT 108 p k)) = 2 := rfl
        obtain ⟨S1, hS1⟩ : ∃ S1, ByteArray.size (mk (txtR 2 p k).1) = S1 := ⟨_, rfl⟩
        obtain ⟨S2, hS2⟩ : ∃ S2, ByteArray.size (mk (txtR 2 p k).2) = S2 := ⟨_, rfl⟩
        have hSb : S1 ≤ 1000 ∧ S2 ≤ 10 := by
          have := txtR_len 2 p k (by omega)
          rw [mk_size] at hS1 hS2
          omega
        have o1 : ¬ 9223372036854775807 < S1 + 7 := by omega
        have o2 : ¬ 9223372036854775807 < S1 + 7 + 2 := by omega
        have o3 : ¬ 9223372036854775807 < S1 + 7 + 2 + 1 := by omega
        have o4 : ¬ 9223372036854775807 < S1 + 7 + 2 + 1 + 1 := by omega
        have o5 : ¬ 9223372036854775807 < S1 + 7 + 2 + 1 + 1 + 6 := by omega
        have o6 : ¬ 9223372036854775807 < S1 + 7 + 2 + 1 + 1 + 6 + 2 := by omega
        have o7 : ¬ 9223372036854775807 < S1 + 7 + 2 + 1 + 1 + 6 + 2 + 1 := by omega
        have o8 : ¬ 9223372036854775807 < S1 + 7 + 2 + 1 + 1 + 6 + 2 + 1 + S2 := by omega
        go_wp2_with fail
        refine Calls.mono (HN.out _ 108 k (by omega)) ?_
        rintro e w6 ⟨rfl, hk6⟩
        go_wp2_with fail
        refine Calls.mono (HN.out _ 108 k (by omega)) ?_
        rintro e w7 ⟨rfl, hk7⟩
        go_wp2_with fail
        refine Calls.mono (HN.out _ 108 k (by omega)) ?_
        rintro e w8 ⟨rfl, hk8⟩
        go_wp2_with fail
        exact ⟨⟨k + 1, by omega, by go_num, rfl, rfl, ((hkw.trans hk6).trans hk7).trans hk8⟩, by simp [intOf]; omega⟩
      · obtain rfl : k = n := by omega
        obtain ⟨⟨ls, hok, hsafe, hmany⟩, htw⟩ := HRd.out
        have c1 := HChk.out wr (mk (txtR 2 p k).1) (hG.keeps hkw)
        unfold CheckL at c1
        rw [bl_mk, hok] at c1
        have HC1 := hid_intro c1
        have HSafe := hid_intro hsafe
        have HMany := hid_intro hmany
        have HTw := hid_intro htw
        clear c1 hok hsafe hmany htw HRd
        go_wp2_with fail
        refine Calls.mono HC1.out ?_
        rintro e w6 ⟨he, hk6⟩
        have he := he HSafe.out
        rw [HMany.out] at he
        subst he
        obtain ⟨S1, hS1⟩ : ∃ S1, ByteArray.size (mk (txtR 2 p k).1) = S1 := ⟨_, rfl⟩
        have hSb : S1 ≤ 1000 := by
          have := txtR_len 2 p k (by omega)
          rw [mk_size] at hS1
          omega
        have o1 : ¬ 9223372036854775807 < S1 + 8 := by omega
        have hGw : Glob w6 := (hG.keeps hkw).keeps hk6
        have hcat : mk (txtR 2 p k).1 ++ (⟨#[10, 98, 97, 100, 32, 61, 32, 49]⟩ : ByteArray) = mk ((txtR 2 p k).1 ++ [10, 98, 97, 100, 32, 61, 32, 49]) := mk_app _ [10, 98, 97, 100, 32, 61, 32, 49]
        have c2 := HChk.out (w6.alloc (.cells #[.bool true, .int .i64 (wantR 2 k : Int), .slice none 0 0, .slice none 0 0] 26)) (mk ((txtR 2 p k).1 ++ [10, 98, 97, 100, 32, 61, 32, 49])) (hGw.keeps ((Keeps.refl _ _).alloc _))
        unfold CheckL at c2
        rw [bl_mk, HTw.out] at c2
        rw [← hcat] at c2
        have HC2 := hid_intro c2
        clear c2 hcat HC1
        go_wp2_with fail
        refine Calls.mono HC2.out ?_
        rintro e w7 ⟨rfl, hk7⟩
        have hk67 : Keeps [] w6 w7 := ((Keeps.refl [] w6).alloc _).trans hk7
        have d0 : w7.cell? ⟨w6.heap.size, 0, none⟩ = some (.bool true) := hk7.cell (by rw [World.cell?_alloc_at _ _ _ _ rfl]; rfl) (by simp)
        have d1 : w7.cell? ⟨w6.heap.size, 1, none⟩ = some (.int .i64 (wantR 2 k : Int)) := hk7.cell (by rw [World.cell?_alloc_at _ _ _ _ rfl]; rfl) (by simp)
        have d2 : w7.cell? ⟨w6.heap.size, 2, none⟩ = some (.slice none 0 0) := hk7.cell (by rw [World.cell?_alloc_at _ _ _ _ rfl]; rfl) (by simp)
        have d3 : w7.cell? ⟨w6.heap.size, 3, none⟩ = some (.slice none 0 0) := hk7.cell (by rw [World.cell?_alloc_at _ _ _ _ rfl]; rfl) (by simp)
        obtain ⟨P, hP⟩ : ∃ P : Nat, P = 2 ^ k := ⟨_, rfl⟩
        rw [wrap_powT _ (by omega), ← hP]
        have hk8 : Keeps [] w7 (w7.alloc (.cells #[.bool false, .int .i64 0, .slice none 0 0, .slice none 0 0] 26)) := (Keeps.refl _ _).alloc _
        have x0 : (w7.alloc (.cells #[.bool false, .int .i64 0, .slice none 0 0, .slice none 0 0] 26)).cell? ⟨w6.heap.size, 0, none⟩ = some (.bool true) := hk8.cell d0 (by simp)
        have x1 : (w7.alloc (.cells #[.bool false, .int .i64 0, .slice none 0 0, .slice none 0 0] 26)).cell? ⟨w6.heap.size, 1, none⟩ = some (.int .i64 (P : Int)) := by
          have := hk8.cell d1 (by simp)
          rw [show wantR 2 k = P by rw [hP]; rfl] at this
          exact this
        have x2 : (w7.alloc (.cells #[.bool false, .int .i64 0, .slice none 0 0, .slice none 0 0] 26)).cell? ⟨w6.heap.size, 2, none⟩ = some (.slice none 0 0) := hk8.cell d2 (by simp)
        have x3 : (w7.alloc (.cells #[.bool false, .int .i64 0, .slice none 0 0, .slice none 0 0] 26)).cell? ⟨w6.heap.size, 3, none⟩ = some (.slice none 0 0) := hk8.cell d3 (by simp)
        have y0 : (w7.alloc (.cells #[.bool false, .int .i64 0, .slice none 0 0, .slice none 0 0] 26)).cell? ⟨w7.heap.size, 0, none⟩ = some (.bool false) := by rw [World.cell?_alloc_at _ _ _ _ rfl]; rfl
        have g1 : IntKind.i64.wrap (2 * (k : Int)) = 2 * (k : Int) := IntWalk.i64_in _ ⟨by omega, by omega⟩
        have g2 : IntKind.i64.wrap (3 + 2 * (k : Int)) = 3 + 2 * (k : Int) := IntWalk.i64_in _ ⟨by omega, by omega⟩
        clear hP
        clear d0 d1 d2 d3 HC2
        go_wp2_with fail
        go_ret
        exact ⟨rfl, ((hkw.trans hk6).trans hk67).alloc _⟩

end Go.Proofs.YtmgjegokkbghlabDoor
