/- The walks of tooMany, missing. -/
import Derived.Test.YtmgjegokkbghlaaGreatDoorFaultsB
namespace Go.Proofs.YtmgjegokkbghlaaGreatDoor
open Go.RowKit Go.Maps Gram Circ
set_option linter.unusedVariables false

theorem howMany_take {ls : List Ln} {j : Nat} (hj : j < ls.length) (k : Nat) : howMany k (ls.take (j + 1)) = howMany k (ls.take j) + if ls[j].kind = k then 1 else 0 := by
  unfold howMany
  rw [List.take_succ_eq_append_getElem hj, List.countP_append]
  by_cases h : ls[j].kind = k <;> simp [h]
theorem howMany_le (k : Nat) (ls : List Ln) : howMany k ls ≤ ls.length := List.countP_le_length

set_option maxRecDepth 100000 in
set_option maxHeartbeats 1000000 in
theorem tooMany_any {w : World} {v : Value} {ls : List Ln} (hv : LV w v ls) :
    Calls Tryz.prog 28 #[v] w fun e w' => e = .returned (.int .i64 ((tells (firstAt (manyAt ls) ls.length) : Nat) : Int)) ∧ Keeps [] w w' := by
  obtain ⟨g, cap, rfl, hcap, hg, hl, hsm, hcell⟩ := hv
  obtain ⟨len, hlen⟩ : ∃ len, len = ls.length := ⟨_, rfl⟩
  rw [← hlen] at hcap hl ⊢
  have HLen : Hid (len = ls.length) := hlen
  have HC : Hid (∀ i (hi : i < ls.length), ∃ a n c, w.cell? ⟨g, i * 4, none⟩ = some (.int .i64 (ls[i].kind : Int)) ∧ w.cell? ⟨g, i * 4 + 1, none⟩ = some (.string ls[i].name) ∧ w.cell? ⟨g, i * 4 + 2, none⟩ = some (.string ls[i].first) ∧ w.cell? ⟨g, i * 4 + 3, none⟩ = some (.slice a n c) ∧ WS w (.slice a n c) (lnPost ls[i])) := hcell
  clear hcell hlen
  go_enter Tryz.func28, Tryz.ntmps28
  go_wp2_with fail
  go_loopw [3, 4, 9] (fun a b x wr => ∃ j p q : Nat, j ≤ len ∧ x = .int .i64 j ∧ a = .int .i64 p ∧ b = .int .i64 q ∧ p = howMany 1 (ls.take j) ∧ q = howMany 2 (ls.take j) ∧ p ≤ j ∧ q ≤ j ∧ (∀ i, i < j → manyAt ls i = false) ∧ Keeps [] w wr) (fun _ _ x _ => len - (intOf x).toNat)
  case atStart => exact ⟨0, 0, 0, by omega, rfl, rfl, rfl, by simp [howMany], by simp [howMany], by omega, by omega, fun i hi => by omega, Keeps.refl _ _⟩
  case round =>
    obtain ⟨j, p, q, hj, rfl, rfl, rfl, hp, hq, hpj, hqj, hno, hk⟩ := hrel
    by_cases hlt : j < len
    · have hj0 : (0 : Int) ≤ (j : Int) := by omega
      have hj1 : (j : Int) < (len : Int) := by omega
      have hjl : j < ls.length := by rw [← HLen.out]; exact hlt
      obtain ⟨a, mn, mc, c0, c1, c2, c3, _⟩ := HC.out j hjl
      have h1 := howMany_take hjl 1
      have h2 := howMany_take hjl 2
      rw [← hp] at h1
      rw [← hq] at h2
      have hma : manyAt ls j = (decide (3 < howMany 1 (ls.take (j + 1))) || decide (4 < howMany 2 (ls.take (j + 1)))) := rfl
      obtain ⟨x, hx⟩ : ∃ x, x = ls[j] := ⟨_, rfl⟩
      rw [← hx] at c0 c1 c2 h1 h2
      have e0 := hk.cell c0 (by simp)
      have e1 := hk.cell c1 (by simp)
      have e2 := hk.cell c2 (by simp)
      have e3 := hk.cell c3 (by simp)
      have HNo : Hid (∀ i, i < j → manyAt ls i = false) := hno
      have H1 : Hid (howMany 1 (ls.take (j + 1)) = p + if x.kind = 1 then 1 else 0) := h1
      have H2 : Hid (howMany 2 (ls.take (j + 1)) = q + if x.kind = 2 then 1 else 0) := h2
      rw [h1, h2] at hma
      have HMA : Hid (manyAt ls j = (decide (3 < p + if x.kind = 1 then 1 else 0) || decide (4 < q + if x.kind = 2 then 1 else 0))) := hma
      clear h1 h2 hma hx hno c0 c1 c2 c3 hp hq
      have hgo : ∀ (wz : World) (p' q' : Nat), Keeps [] wr wz → p' = (p + if x.kind = 1 then 1 else 0) → q' = (q + if x.kind = 2 then 1 else 0) → manyAt ls j = false →
          ∃ j2 p2 q2 : Nat, j2 ≤ len ∧ Value.int .i64 ((j : Int) + 1) = .int .i64 j2 ∧ Value.int .i64 (p' : Int) = .int .i64 p2 ∧ Value.int .i64 (q' : Int) = .int .i64 q2 ∧ p2 = howMany 1 (ls.take j2) ∧ q2 = howMany 2 (ls.take j2) ∧ p2 ≤ j2 ∧ q2 ≤ j2 ∧ (∀ i, i < j2 → manyAt ls i = false) ∧ Keeps [] w wz := by
        intro wz p' q' hkz hp' hq' hf
        refine ⟨j + 1, p', q', by omega, by go_num, rfl, rfl, by rw [H1.out, hp'], by rw [H2.out, hq'], by rw [hp']; split <;> omega, by rw [hq']; split <;> omega, fun i hi => ?_, hk.trans hkz⟩
        by_cases e : i = j
        · subst e; exact hf
        · exact HNo.out i (by omega)
      have hend : ∀ (wz : World), Keeps [] wr wz → manyAt ls j = true → Ending.returned (.int .i64 ((j : Int) + 1)) = .returned (.int .i64 ((tells (firstAt (manyAt ls) len) : Nat) : Int)) ∧ Keeps [] w wz := by
        intro wz hkz ht
        refine ⟨?_, hk.trans hkz⟩
        rw [HLen.out, firstAt_some hjl ht HNo.out]
        exact ret_int (by simp [tells])
      have HGo : Hid _ := hgo
      have HEnd : Hid _ := hend
      clear hgo hend
      by_cases k1 : x.kind = 1
      · have q1 : ((x.kind : Int) == 1) = true := by simp [k1]
        have HM : Hid (manyAt ls j = (decide (3 < p + 1) || decide (4 < q))) := by show _ = _; rw [HMA.out]; simp [k1]
        have HP : Hid (p + 1 = p + if x.kind = 1 then 1 else 0) := by show _ = _; simp [k1]
        have HQ : Hid (q = q + if x.kind = 2 then 1 else 0) := by show _ = _; simp [k1]
        clear k1 HMA
        go_wp2_with fail
        all_goals first
          | exact ⟨by simpa using HGo.out _ (p + 1) q ((Keeps.refl _ _).alloc _) HP.out HQ.out (by rw [HM.out]; simp; omega), by simp [intOf]; omega⟩
          | (go_ret; exact HEnd.out _ ((Keeps.refl _ _).alloc _) (by rw [HM.out]; simp; omega))
      · have q1 : ((x.kind : Int) == 1) = false := beq_false_of_ne (by omega)
        by_cases k2 : x.kind = 2
        · have q2 : ((x.kind : Int) == 2) = true := by simp [k2]
          have HM : Hid (manyAt ls j = (decide (3 < p) || decide (4 < q + 1))) := by show _ = _; rw [HMA.out]; simp [k2]
          have HP : Hid (p = p + if x.kind = 1 then 1 else 0) := by show _ = _; simp [k2]
          have HQ : Hid (q + 1 = q + if x.kind = 2 then 1 else 0) := by show _ = _; simp [k2]
          clear k1 k2 HMA
          go_wp2_with fail
          all_goals first
            | exact ⟨by simpa using HGo.out _ p (q + 1) ((Keeps.refl _ _).alloc _) HP.out HQ.out (by rw [HM.out]; simp; omega), by simp [intOf]; omega⟩
            | (go_ret; exact HEnd.out _ ((Keeps.refl _ _).alloc _) (by rw [HM.out]; simp; omega))
        · have q2 : ((x.kind : Int) == 2) = false := beq_false_of_ne (by omega)
          have HM : Hid (manyAt ls j = (decide (3 < p) || decide (4 < q))) := by show _ = _; rw [HMA.out]; simp [k1, k2]
          have HP : Hid (p = p + if x.kind = 1 then 1 else 0) := by show _ = _; simp [k1]
          have HQ : Hid (q = q + if x.kind = 2 then 1 else 0) := by show _ = _; simp [k2]
          clear k1 k2 HMA
          go_wp2_with fail
          all_goals first
            | exact ⟨by simpa using HGo.out _ p q ((Keeps.refl _ _).alloc _) HP.out HQ.out (by rw [HM.out]; simp; omega), by simp [intOf]; omega⟩
            | (go_ret; exact HEnd.out _ ((Keeps.refl _ _).alloc _) (by rw [HM.out]; simp; omega))
    · obtain rfl : j = len := by omega
      have HNo : Hid (∀ i, i < j → manyAt ls i = false) := hno
      clear hno hp hq
      go_wp2_with fail
      go_ret
      refine ⟨?_, hk⟩
      rw [firstAt_none HNo.out]
      rfl

/-- what missing answers -/
def missOf (ls : List Ln) : Nat × Bool := match firstAt (lackAt ls) ls.length with
  | some i => (i + 1, true)
  | none => (0, decide (howMany 4 ls = 0))
theorem claims_next {ls : List Ln} {n : W} : (3, n) ∈ ls.map claimOf ↔ has (named 3 ls) n = true := by
  rw [has_iff]
  unfold named
  simp only [List.mem_map, List.mem_filter, beq_iff_eq]
  constructor
  · rintro ⟨x, hx, e⟩
    unfold claimOf at e
    simp only [Prod.mk.injEq] at e
    refine ⟨x, ⟨hx, ?_⟩, e.2⟩
    have := e.1
    split at this <;> omega
  · rintro ⟨x, ⟨hx, h3⟩, e⟩
    exact ⟨x, hx, by unfold claimOf; rw [if_neg (by omega), h3, e]⟩
theorem claims_bad {ls : List Ln} (hb : ∀ x ∈ ls, x.kind = 4 → x.name = emp) : (4, emp) ∈ ls.map claimOf ↔ howMany 4 ls ≠ 0 := by
  unfold howMany
  rw [Nat.ne_zero_iff_zero_lt, List.countP_pos_iff]
  simp only [List.mem_map, beq_iff_eq]
  constructor
  · rintro ⟨x, hx, e⟩
    unfold claimOf at e
    simp only [Prod.mk.injEq] at e
    refine ⟨x, hx, ?_⟩
    have := e.1
    split at this <;> omega
  · rintro ⟨x, hx, h4⟩
    exact ⟨x, hx, by unfold claimOf; rw [if_neg (by omega), h4, hb x hx h4]⟩
theorem lackAt_iff {ls : List Ln} {i : Nat} (hi : i < ls.length) : lackAt ls i = true ↔ ls[i].kind = 2 ∧ ¬ (3, ls[i].name) ∈ ls.map claimOf := by
  unfold lackAt
  rw [nth_eq hi, claims_next]
  simp

set_option maxRecDepth 100000 in
set_option maxHeartbeats 1000000 in
theorem missing_any {w : World} {v : Value} {ls : List Ln} (hv : LV w v ls) (hb : ∀ x ∈ ls, x.kind = 4 → x.name = emp) :
    Calls Tryz.prog 30 #[v] w fun e w' => e = .returned (.tuple #[.int .i64 (((missOf ls).1 : Nat) : Int), .bool (missOf ls).2]) ∧ Keeps [] w w' := by
  obtain ⟨g, cap, rfl, hcap, hg, hl, hsm, hcell⟩ := hv
  have hmm := @run_makeMap Tryz.prog
  have hml : 2000000 < maxLen := by decide
  obtain ⟨len, hlen⟩ : ∃ len, len = ls.length := ⟨_, rfl⟩
  rw [← hlen] at hcap hl ⊢
  have HLen : Hid (len = ls.length) := hlen
  have HC : Hid (∀ i (hi : i < ls.length), ∃ a n c, w.cell? ⟨g, i * 4, none⟩ = some (.int .i64 (ls[i].kind : Int)) ∧ w.cell? ⟨g, i * 4 + 1, none⟩ = some (.string ls[i].name) ∧ w.cell? ⟨g, i * 4 + 2, none⟩ = some (.string ls[i].first) ∧ w.cell? ⟨g, i * 4 + 3, none⟩ = some (.slice a n c) ∧ WS w (.slice a n c) (lnPost ls[i])) := hcell
  have HB : Hid ((4, emp) ∈ ls.map claimOf ↔ howMany 4 ls ≠ 0) := claims_bad hb
  obtain ⟨res, hres⟩ : ∃ res, res = missOf ls := ⟨_, rfl⟩
  rw [← hres]
  have HRes : Hid (res = missOf ls) := hres
  clear hcell hlen hb hres
  go_enter Tryz.func30, Tryz.ntmps30
  go_wp2_with fail
  go_loopw [16] (fun x wr => ∃ j n : Nat, j ≤ len ∧ x = .int .i64 j ∧ MapIs wr Tryz.prog 146 w.heap.size n (saidG ((ls.take j).map claimOf)) ∧ n ≤ j ∧ Keeps [] w wr) (fun x _ => len - (intOf x).toNat)
  case atStart =>
    refine ⟨0, 0, by omega, rfl, (MapIs.made w Tryz.prog 146).congr (fun x _ _ => by simpa using saidG_nil x), by omega, (Keeps.refl _ _).alloc _⟩
  case round =>
    obtain ⟨j, n, hj, rfl, hm, hn, hk⟩ := hrel
    by_cases hlt : j < len
    · have hj0 : (0 : Int) ≤ (j : Int) := by omega
      have hj1 : (j : Int) < (len : Int) := by omega
      have hjl : j < ls.length := by rw [← HLen.out]; exact hlt
      obtain ⟨a, mn, mc, c0, c1, c2, c3, _⟩ := HC.out j hjl
      have htk : (ls.take (j + 1)).map claimOf = (ls.take j).map claimOf ++ [claimOf ls[j]] := by rw [List.take_succ_eq_append_getElem hjl, List.map_append]; rfl
      have hsx := hsm ls[j] (List.getElem_mem _)
      obtain ⟨x, hx⟩ : ∃ x, x = ls[j] := ⟨_, rfl⟩
      rw [← hx] at c0 c1 c2 htk hsx
      have e0 := hk.cell c0 (by simp)
      have e1 := hk.cell c1 (by simp)
      have e2 := hk.cell c2 (by simp)
      have e3 := hk.cell c3 (by simp)
      obtain ⟨kl, hkey⟩ := keyClaim (c := claimOf x) (by unfold claimOf; simp only; split <;> omega) hsx.2.1
      have HTK : Hid ((ls.take (j + 1)).map claimOf = (ls.take j).map claimOf ++ [claimOf x]) := htk
      have HM : Hid (MapIs wr Tryz.prog 146 w.heap.size n (saidG ((ls.take j).map claimOf))) := hm
      have hlw : w.heap.size < wr.heap.size := hm.lt
      clear htk hx c0 c1 c2 c3 hsx hm
      obtain ⟨L, hL⟩ : ∃ L, L = (ls.take j).map claimOf := ⟨_, rfl⟩
      rw [← hL] at HTK HM
      obtain ⟨cl, hcl⟩ : ∃ cl, cl = claimOf x := ⟨_, rfl⟩
      have HCl : Hid (∀ w1, Calls Tryz.prog 64 #[.agg #[.int .i64 (x.kind : Int), .string x.name, .string x.first, .slice a mn mc]] w1 fun e w' => e = .returned (claimV cl) ∧ Keeps [] w1 w') := fun w1 => by rw [hcl]; exact claim_any x (.slice a mn mc) ⟨_, _, _, rfl⟩
      rw [← hcl] at hkey HTK
      clear hL hcl
      go_wp2_with fail
      refine (HCl.out _).mono ?_
      rintro e w3 ⟨rfl, hk3⟩
      have hk23 : Keeps [] wr w3 := ((Keeps.refl [] _).alloc _).trans hk3
      obtain ⟨w4, hr4, hm4, hg4⟩ := (HM.out.keeps hk23 (by simp)).update lawClaim Tryz.underlying142 (by omega) hkey (.agg #[])
      go_wp2_with fail
      refine ⟨⟨j + 1, _, by omega, by go_num, (by rw [HTK.out]; exact hm4.congr (fun v _ _ => saidG_set L cl v)), by split <;> omega, ?_⟩, by simp [intOf]; omega⟩
      exact ((hk.trans hk23).mono (by simp)).grown hg4 (fun k e => by cases e; right; omega)
    · obtain rfl : j = len := by omega
      have hm2 : MapIs wr Tryz.prog 146 w.heap.size n (saidG (ls.map claimOf)) := by
        have := hm
        rw [HLen.out, List.take_length] at this
        exact this
      have HM : Hid (MapIs wr Tryz.prog 146 w.heap.size n (saidG (ls.map claimOf))) := hm2
      clear hm hm2
      obtain ⟨wq, hwq⟩ : ∃ wq, wq = wr := ⟨_, rfl⟩
      rw [← hwq] at HM hk ⊢
      clear hwq
      go_wp2_with fail
      go_loopw [27] (fun x wr => ∃ i : Nat, i ≤ j ∧ x = .int .i64 i ∧ (∀ k, k < i → lackAt ls k = false) ∧ Keeps [] wq wr) (fun x _ => j - (intOf x).toNat)
      case atStart => exact ⟨0, by omega, rfl, fun k hk => by omega, Keeps.refl _ _⟩
      case round =>
        obtain ⟨i, hi, rfl, hno, hk2⟩ := hrel
        by_cases hlt2 : i < j
        · have hi0 : (0 : Int) ≤ (i : Int) := by omega
          have hi1 : (i : Int) < (j : Int) := by omega
          have hil : i < ls.length := by rw [← HLen.out]; exact hlt2
          obtain ⟨a, mn, mc, c0, c1, c2, c3, _⟩ := HC.out i hil
          have hla := lackAt_iff hil
          have hsx := hsm ls[i] (List.getElem_mem _)
          obtain ⟨x, hx⟩ : ∃ x, x = ls[i] := ⟨_, rfl⟩
          rw [← hx] at c0 c1 c2 hla hsx
          have hkk := hk.trans hk2
          have e0 := hkk.cell c0 (by simp)
          have e1 := hkk.cell c1 (by simp)
          have e2 := hkk.cell c2 (by simp)
          have e3 := hkk.cell c3 (by simp)
          obtain ⟨kl, hkey⟩ := keyClaim (c := (3, x.name)) (by simp) hsx.2.1
          have HLa : Hid (lackAt ls i = true ↔ x.kind = 2 ∧ ¬ (3, x.name) ∈ ls.map claimOf) := hla
          have HNo : Hid (∀ k, k < i → lackAt ls k = false) := hno
          have HMr := HM.out.keeps hk2 (by simp)
          have HMR : Hid (MapIs wr Tryz.prog 146 w.heap.size n (saidG (ls.map claimOf))) := HMr
          clear hla hx hno c0 c1 c2 c3 hsx HMr
          have HGo : Hid (∀ wz, Keeps [] wr wz → lackAt ls i = false → ∃ i2 : Nat, i2 ≤ j ∧ Value.int .i64 ((i : Int) + 1) = .int .i64 i2 ∧ (∀ k, k < i2 → lackAt ls k = false) ∧ Keeps [] wq wz) := by
            intro wz hkz hf
            refine ⟨i + 1, by omega, by go_num, fun k hk' => ?_, hk2.trans hkz⟩
            by_cases e : k = i
            · subst e; exact hf
            · exact HNo.out k (by omega)
          by_cases hmem : (3, x.name) ∈ ls.map claimOf
          · have HG : Hid (saidG (ls.map claimOf) (.agg #[.int .i64 3, .string x.name]) = some (.agg #[])) := saidG_in hmem
            have HF : Hid (lackAt ls i = false) := by
              show _ = _
              cases ht : lackAt ls i with
              | false => rfl
              | true => exact absurd hmem (HLa.out.1 ht).2
            clear hmem
            go_wp2_with (first
              | (at_lookup; refine wpList_look_ok _ rfl _ _ 142 rfl 146 143 lawClaim Tryz.underlying142 (zeroUnit _) w.heap.size n (saidG (ls.map claimOf)) rfl (HMR.out.alloc _) (.agg #[.int .i64 3, .string x.name]) kl rfl hkey ?_; rw [HG.out])
              | fail)
            all_goals exact ⟨HGo.out _ (((Keeps.refl _ _).alloc _).alloc _) HF.out, by simp [intOf]; omega⟩
          · have HG : Hid (saidG (ls.map claimOf) (.agg #[.int .i64 3, .string x.name]) = none) := saidG_out hmem
            by_cases k2 : x.kind = 2
            · have q2 : ((x.kind : Int) == 2) = true := by simp [k2]
              have HT : Hid (lackAt ls i = true) := HLa.out.2 ⟨k2, hmem⟩
              clear hmem k2
              go_wp2_with (first
                | (at_lookup; refine wpList_look_ok _ rfl _ _ 142 rfl 146 143 lawClaim Tryz.underlying142 (zeroUnit _) w.heap.size n (saidG (ls.map claimOf)) rfl (HMR.out.alloc _) (.agg #[.int .i64 3, .string x.name]) kl rfl hkey ?_; rw [HG.out])
                | fail)
              go_ret2
              refine ⟨?_, (hk.trans hk2).trans (((Keeps.refl _ _).alloc _).alloc _)⟩
              rw [HRes.out, missOf, firstAt_some hil HT.out HNo.out]
              simp
            · have q2 : ((x.kind : Int) == 2) = false := beq_false_of_ne (by omega)
              have HF : Hid (lackAt ls i = false) := by
                show _ = _
                cases ht : lackAt ls i with
                | false => rfl
                | true => exact absurd (HLa.out.1 ht).1 k2
              clear hmem k2
              go_wp2_with (first
                | (at_lookup; refine wpList_look_ok _ rfl _ _ 142 rfl 146 143 lawClaim Tryz.underlying142 (zeroUnit _) w.heap.size n (saidG (ls.map claimOf)) rfl (HMR.out.alloc _) (.agg #[.int .i64 3, .string x.name]) kl rfl hkey ?_; rw [HG.out])
                | fail)
              all_goals exact ⟨HGo.out _ (((Keeps.refl _ _).alloc _).alloc _) HF.out, by simp [intOf]; omega⟩
        · obtain rfl : i = j := by omega
          have HNo : Hid (∀ k, k < i → lackAt ls k = false) := hno
          have HMr := HM.out.keeps hk2 (by simp)
          obtain ⟨kl, hkey⟩ := keyClaim (c := (4, emp)) (by simp) (by decide)
          clear hno
          have hno2 : missOf ls = (0, decide (howMany 4 ls = 0)) := by rw [missOf, ← HLen.out, firstAt_none HNo.out]
          by_cases hmem : (4, emp) ∈ ls.map claimOf
          · have HG : Hid (saidG (ls.map claimOf) (.agg #[.int .i64 4, .string ⟨#[]⟩]) = some (.agg #[])) := saidG_in hmem
            have HF : Hid (res = (0, false)) := by show _ = _; rw [HRes.out, hno2]; simpa using HB.out.1 hmem
            clear hmem hno2
            go_wp2_with (first
              | (at_lookup; refine wpList_look_ok _ rfl _ _ 142 rfl 146 143 lawClaim Tryz.underlying142 (zeroUnit _) w.heap.size n (saidG (ls.map claimOf)) rfl HMr (.agg #[.int .i64 4, .string ⟨#[]⟩]) kl rfl hkey ?_; rw [HG.out])
              | fail)
            go_ret2
            exact ⟨by rw [HF.out]; rfl, (hk.trans hk2).trans ((Keeps.refl _ _).alloc _)⟩
          · have HG : Hid (saidG (ls.map claimOf) (.agg #[.int .i64 4, .string ⟨#[]⟩]) = none) := saidG_out hmem
            have HF : Hid (res = (0, true)) := by
              show _ = _
              rw [HRes.out, hno2]
              have : howMany 4 ls = 0 := by
                rcases Nat.eq_zero_or_pos (howMany 4 ls) with e | e
                · exact e
                · exact absurd (HB.out.2 (by omega)) hmem
              simp [this]
            clear hmem hno2
            go_wp2_with (first
              | (at_lookup; refine wpList_look_ok _ rfl _ _ 142 rfl 146 143 lawClaim Tryz.underlying142 (zeroUnit _) w.heap.size n (saidG (ls.map claimOf)) rfl HMr (.agg #[.int .i64 4, .string ⟨#[]⟩]) kl rfl hkey ?_; rw [HG.out])
              | fail)
            go_ret2
            exact ⟨by rw [HF.out]; rfl, (hk.trans hk2).trans ((Keeps.refl _ _).alloc _)⟩

end Go.Proofs.YtmgjegokkbghlaaGreatDoor
