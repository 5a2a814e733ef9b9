/- The walks of twice, tooMany, missing, unknown. -/
import Derived.Test.YtmgjegokkbghlaaGreatDoorFaults
namespace Go.Proofs.YtmgjegokkbghlaaGreatDoor
open Go.RowKit Go.Maps Gram Circ
set_option linter.unusedVariables false

theorem zeroUnit (w : World) : (zeroValue 143).run Tryz.prog w = .ok (.agg #[]) w := by kernel_rfl

theorem ret_int {k : IntKind} {a b : Int} (h : a = b) : Ending.returned (.int k a) = .returned (.int k b) := by rw [h]
theorem line_at {w w2 : World} {a b c d : Value} (hk : Keeps [] (w.alloc (.cells #[a, b, c, d] 139)) w2) :
    w2.cell? ⟨w.heap.size, 0, none⟩ = some a ∧ w2.cell? ⟨w.heap.size, 1, none⟩ = some b ∧ w2.cell? ⟨w.heap.size, 2, none⟩ = some c ∧ w2.cell? ⟨w.heap.size, 3, none⟩ = some d ∧ w.heap.size < w2.heap.size ∧ Keeps [] w w2 := by
  have hs := hk.size
  exact ⟨hk.cell (by simp) (by simp), hk.cell (by simp) (by simp), hk.cell (by simp) (by simp), hk.cell (by simp) (by simp), by simp at hs; omega, ((Keeps.refl [] w).alloc _).trans hk⟩

set_option maxRecDepth 100000 in
set_option maxHeartbeats 1000000 in
theorem twice_any {w : World} {v : Value} {ls : List Ln} (hv : LV w v ls) :
    Calls Tryz.prog 27 #[v] w fun e w' => e = .returned (.int .i64 ((tells (firstAt (twiceAt ls) ls.length) : Nat) : Int)) ∧ Keeps [] w w' := by
  obtain ⟨g, cap, rfl, hcap, hg, hl, hsm, hcell⟩ := hv
  have hmm := @run_makeMap Tryz.prog
  have hml : 2000000 < maxLen := by decide
  obtain ⟨len, hlen⟩ : ∃ len, len = ls.length := ⟨_, rfl⟩
  rw [← hlen] at hcap hl ⊢
  have HLen : Hid (len = ls.length) := hlen
  have HC : Hid (∀ i (hi : i < ls.length), ∃ a n c, w.cell? ⟨g, i * 4, none⟩ = some (.int .i64 (ls[i].kind : Int)) ∧ w.cell? ⟨g, i * 4 + 1, none⟩ = some (.string ls[i].name) ∧ w.cell? ⟨g, i * 4 + 2, none⟩ = some (.string ls[i].first) ∧ w.cell? ⟨g, i * 4 + 3, none⟩ = some (.slice a n c) ∧ WS w (.slice a n c) (lnPost ls[i])) := hcell
  clear hcell hlen
  go_enter Tryz.func27, Tryz.ntmps27
  go_wp2_with fail
  go_loopw [11] (fun x wr => ∃ j n : Nat, j ≤ len ∧ x = .int .i64 j ∧ MapIs wr Tryz.prog 146 w.heap.size n (saidG ((ls.take j).map claimOf)) ∧ n ≤ j ∧ (∀ i, i < j → twiceAt ls i = false) ∧ Keeps [] w wr) (fun x _ => len - (intOf x).toNat)
  case atStart =>
    refine ⟨0, 0, by omega, rfl, (MapIs.made w Tryz.prog 146).congr (fun x _ _ => by simpa using saidG_nil x), by omega, fun i hi => by omega, (Keeps.refl _ _).alloc _⟩
  case round =>
    obtain ⟨j, n, hj, rfl, hm, hn, hno, hk⟩ := hrel
    by_cases hlt : j < len
    · have hj0 : (0 : Int) ≤ (j : Int) := by omega
      have hj1 : (j : Int) < (len : Int) := by omega
      have hjl : j < ls.length := by rw [← HLen.out]; exact hlt
      obtain ⟨a, mn, mc, c0, c1, c2, c3, _⟩ := HC.out j hjl
      have htw := twiceAt_iff hjl
      have htk : (ls.take (j + 1)).map claimOf = (ls.take j).map claimOf ++ [claimOf ls[j]] := by rw [List.take_succ_eq_append_getElem hjl, List.map_append]; rfl
      have hsx := hsm ls[j] (List.getElem_mem _)
      obtain ⟨x, hx⟩ : ∃ x, x = ls[j] := ⟨_, rfl⟩
      rw [← hx] at c0 c1 c2 htw htk hsx
      have e0 := hk.cell c0 (by simp)
      have e1 := hk.cell c1 (by simp)
      have e2 := hk.cell c2 (by simp)
      have e3 := hk.cell c3 (by simp)
      obtain ⟨kl, hkey⟩ := keyClaim (c := claimOf x) (by unfold claimOf; simp only; split <;> omega) hsx.2.1
      have HTK : Hid ((ls.take (j + 1)).map claimOf = (ls.take j).map claimOf ++ [claimOf x]) := htk
      have HTW : Hid (twiceAt ls j = true ↔ claimOf x ∈ (ls.take j).map claimOf ∧ x.kind ≠ 0) := htw
      have HNo : Hid (∀ i, i < j → twiceAt ls i = false) := hno
      have HM : Hid (MapIs wr Tryz.prog 146 w.heap.size n (saidG ((ls.take j).map claimOf))) := hm
      have hlw : w.heap.size < wr.heap.size := hm.lt
      clear htk htw hx hno c0 c1 c2 c3 hsx hm
      obtain ⟨L, hL⟩ : ∃ L, L = (ls.take j).map claimOf := ⟨_, rfl⟩
      rw [← hL] at HTK HTW HM
      obtain ⟨cl, hcl⟩ : ∃ cl, cl = claimOf x := ⟨_, rfl⟩
      have HCl : Hid (∀ w1, Calls Tryz.prog 64 #[.agg #[.int .i64 (x.kind : Int), .string x.name, .string x.first, .slice a mn mc]] w1 fun e w' => e = .returned (claimV cl) ∧ Keeps [] w1 w') := fun w1 => by rw [hcl]; exact claim_any x (.slice a mn mc) ⟨_, _, _, rfl⟩
      rw [← hcl] at hkey HTK HTW
      clear hL hcl
      have hgo : ∀ w2 w3 w4 : World, Keeps [] wr w2 → Keeps [] w2 w3 → MapIs w4 Tryz.prog 146 w.heap.size (if (saidG L (claimV cl)).isSome then n else n + 1) (setG (saidG L) (claimV cl) (some (.agg #[]))) → w3.grownBy w4 (some w.heap.size) → twiceAt ls j = false →
          ∃ j' n' : Nat, j' ≤ len ∧ Value.int .i64 ((j : Int) + 1) = .int .i64 j' ∧ MapIs w4 Tryz.prog 146 w.heap.size n' (saidG ((ls.take j').map claimOf)) ∧ n' ≤ j' ∧ (∀ i, i < j' → twiceAt ls i = false) ∧ Keeps [] w w4 := by
        intro w2 w3 w4 hk2 hk3 hm4 hg4 hf
        refine ⟨j + 1, _, by omega, by go_num, (by rw [HTK.out]; exact hm4.congr (fun v _ _ => saidG_set L cl v)), by split <;> omega, fun i hi => ?_, ?_⟩
        · by_cases e : i = j
          · subst e; exact hf
          · exact HNo.out i (by omega)
        · exact ((hk.trans (hk2.trans hk3)).mono (by simp)).grown hg4 (fun k e => by cases e; right; omega)
      by_cases hmem : cl ∈ L
      · have HG : Hid (saidG L (claimV cl) = some (.agg #[])) := saidG_in hmem
        by_cases hk0 : x.kind = 0
        · have q : ((x.kind : Int) != 0) = false := by simp [hk0]
          have HF : Hid (twiceAt ls j = false) := by
            show _ = _
            cases ht : twiceAt ls j with
            | false => rfl
            | true => exact absurd hk0 (HTW.out.1 ht).2
          clear hmem hk0
          go_wp2_with (first
            | (go_at_call 64; refine (HCl.out _).mono ?_; rintro e w2 ⟨rfl, hk2⟩; obtain ⟨z0, z1, z2, z3, hlt2, hkw2⟩ := line_at hk2)
            | (at_lookup; refine wpList_look_ok _ rfl _ _ 142 rfl 146 143 lawClaim Tryz.underlying142 (zeroUnit _) w.heap.size n (saidG L) rfl (HM.out.keeps hkw2 (by simp)) (claimV cl) kl rfl hkey ?_; rw [HG.out])
            | fail)
          refine (HCl.out _).mono ?_
          rintro e w3 ⟨rfl, hk3⟩
          have hk23 : Keeps [] w2 w3 := ((Keeps.refl [] _).alloc _).trans hk3
          obtain ⟨w4, hr4, hm4, hg4⟩ := (HM.out.keeps (hkw2.trans hk23) (by simp)).update lawClaim Tryz.underlying142 (by omega) hkey (.agg #[])
          go_wp2_with fail
          exact ⟨hgo w2 w3 w4 hkw2 hk23 hm4 hg4 HF.out, by simp [intOf]; omega⟩
        · have q : ((x.kind : Int) != 0) = true := bne_iff_ne.2 (by omega)
          have HT : Hid (twiceAt ls j = true) := HTW.out.2 ⟨hmem, hk0⟩
          clear hmem hk0
          go_wp2_with (first
            | (go_at_call 64; refine (HCl.out _).mono ?_; rintro e w2 ⟨rfl, hk2⟩; obtain ⟨z0, z1, z2, z3, hlt2, hkw2⟩ := line_at hk2)
            | (at_lookup; refine wpList_look_ok _ rfl _ _ 142 rfl 146 143 lawClaim Tryz.underlying142 (zeroUnit _) w.heap.size n (saidG L) rfl (HM.out.keeps hkw2 (by simp)) (claimV cl) kl rfl hkey ?_; rw [HG.out])
            | fail)
          go_ret
          refine ⟨?_, hk.trans (hkw2.trans ((Keeps.refl [] _).alloc _))⟩
          rw [HLen.out, firstAt_some hjl HT.out HNo.out]
          exact ret_int (by simp [tells])
      · have HG : Hid (saidG L (claimV cl) = none) := saidG_out hmem
        have HF : Hid (twiceAt ls j = false) := by
          show _ = _
          cases ht : twiceAt ls j with
          | false => rfl
          | true => exact absurd (HTW.out.1 ht).1 hmem
        clear hmem
        go_wp2_with (first
          | (go_at_call 64; refine (HCl.out _).mono ?_; rintro e w2 ⟨rfl, hk2⟩; obtain ⟨z0, z1, z2, z3, hlt2, hkw2⟩ := line_at hk2)
          | (at_lookup; refine wpList_look_ok _ rfl _ _ 142 rfl 146 143 lawClaim Tryz.underlying142 (zeroUnit _) w.heap.size n (saidG L) rfl (HM.out.keeps hkw2 (by simp)) (claimV cl) kl rfl hkey ?_; rw [HG.out])
          | fail)
        refine (HCl.out _).mono ?_
        rintro e w3 ⟨rfl, hk3⟩
        have hk23 : Keeps [] w2 w3 := ((Keeps.refl [] _).alloc _).trans hk3
        obtain ⟨w4, hr4, hm4, hg4⟩ := (HM.out.keeps (hkw2.trans hk23) (by simp)).update lawClaim Tryz.underlying142 (by omega) hkey (.agg #[])
        go_wp2_with fail
        exact ⟨hgo w2 w3 w4 hkw2 hk23 hm4 hg4 HF.out, by simp [intOf]; omega⟩
    · obtain rfl : j = len := by omega
      have HNo : Hid (∀ i, i < j → twiceAt ls i = false) := hno
      clear hno
      go_wp2_with fail
      go_ret
      refine ⟨?_, hk⟩
      rw [firstAt_none HNo.out]
      rfl

end Go.Proofs.YtmgjegokkbghlaaGreatDoor
