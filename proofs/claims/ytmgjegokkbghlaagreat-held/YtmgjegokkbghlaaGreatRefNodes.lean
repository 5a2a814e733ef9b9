/- The document's store in memory: Count of nothing. -/
import Derived.Test.YtmgjegokkbghlaaGreatRefHold
namespace Go.Proofs.YtmgjegokkbghlaaGreat
open Go.RowKit Go.Maps Bdd
attribute [local go_sem ↓] Go.wp_at_zero Go.wp_at_succ

set_option maxRecDepth 100000 in
set_option maxHeartbeats 1000000 in
theorem rcount_nil {w : World} {r n ob ocap fcap : Nat} {a : Option Addr} {o : Ord n} (hn8 : n ≤ 8) (hc : w.cell? ⟨r, 0, none⟩ = some (.int .i64 (n : Int))) (ho : ∀ k : Nat, k < n → w.cell? ⟨ob, 0 + k, none⟩ = some (.int .i64 (o.at_ (k : Int)))) :
    Calls Tryz.prog 97 #[.pointer (some ⟨r, 0, none⟩), .slice a 0 fcap, .slice (some ⟨ob, 0, none⟩) n ocap] w fun e w' => e = .returned (.int .i64 0) ∧ w = w' := by
  have HO : Hid (∀ k : Nat, k < n → w.cell? ⟨ob, 0 + k, none⟩ = some (.int .i64 (o.at_ (k : Int)))) := ho
  clear ho
  go_enter Tryz.func97, Tryz.ntmps97
  go_wp2_with fail
  go_loopw [8, 9] (fun v x wr => x = .int .i64 0 ∧ v = .slice none 0 0 ∧ w = wr) (fun _ _ _ => 0)
  case atStart => exact ⟨rfl, rfl, rfl⟩
  case round =>
    obtain ⟨rfl, rfl, rfl⟩ := hrel
    go_wp2_with fail
    go_loopw [7, 8, 11] (fun c v x wr => ∃ k : Nat, k ≤ n ∧ x = .int .i64 k ∧ c = .int .i64 0 ∧ v = .slice none 0 0 ∧ w = wr) (fun _ _ x _ => n - (intOf x).toNat)
    case atStart => exact ⟨0, by omega, rfl, rfl, rfl, rfl⟩
    case round =>
      obtain ⟨k, hk, rfl, rfl, rfl, rfl⟩ := hrel
      by_cases hlt : k < n
      · have hk0 : (0 : Int) ≤ (k : Int) := by omega
        have hk1 : (k : Int) < (n : Int) := by omega
        have h1 := HO.out k hlt
        rw [Nat.zero_add] at h1
        go_wp2_with fail
        go_loopw [7, 13, 14] (fun c v x wr => c = .int .i64 0 ∧ v = .slice none 0 0 ∧ x = .int .i64 0 ∧ w = wr) (fun _ _ _ _ => 0)
        case atStart => exact ⟨rfl, rfl, rfl, rfl⟩
        case round =>
          obtain ⟨rfl, rfl, rfl, rfl⟩ := hrel
          go_wp2_with fail
          go_roundw
          case rel => exact ⟨k + 1, by omega, by go_num, rfl, rfl, by first | rfl | trivial⟩
          case measure => simp [intOf]; omega
      · have e : k = n := by omega
        subst e
        go_wp2_with fail
        go_ret
        exact ⟨rfl, by first | rfl | trivial⟩

theorem total_nil (N : Tab) : ∀ (d : Nat) (k : Int), total N d k [] = 0
  | 0, k => by simp [total]
  | d + 1, k => by
    have h := total_nil N d (k + 1)
    simp [total, atLv, nextN, once, h]

section
variable {N : Tab} {last : Int} {n : Nat}

set_option maxRecDepth 100000 in
set_option maxHeartbeats 1000000 in
theorem rnodes_any {w : World} {r : Nat} {lim la : Int} {ov lv : Value} {o : Ord n} {ns : List (Int × Int)} (hw : Wf N (n : Int) last) (hn8 : n ≤ 8) (h : RSt w r n lim la ov lv o (hT N o ns)) (hok : ∀ p ∈ ns, Ok N 0 p.2) (hl : ns.length ≤ 60) :
    Calls Tryz.prog 58 #[.pointer (some ⟨r, 0, none⟩)] w fun e w' => e = .returned (.int .i64 ((total N n 0 (once [] (ns.map (·.2))) : Nat) : Int)) ∧ Keeps [] w w' := by
  have hlen := hT_length N o ns
  obtain ⟨ob, ocap, eov, hobr, hobl, hord⟩ := h.ord
  subst eov
  have c3 := h.c3
  have HALL : Hid (∀ w0 : World, Keeps [] w w0 → Calls Tryz.prog 98 #[.pointer (some ⟨r, 0, none⟩)] w0 fun e w' => ∃ v, e = .returned v ∧ w'.ownsRow w.heap.size 9 1 v ns.length (((ns.map (·.2)).map (T N o)).map Value.string) ∧ Keeps [] w w') := by
    intro w0 hk
    refine (rall_any (h.held.keeps hk (by simp) (by simp)) (by omega)).mono ?_
    rintro e w' ⟨v, rfl, ho, hk'⟩
    rw [hlen, hT_texts] at ho
    exact ⟨v, rfl, row_mono ho hk.size, hk.trans hk'⟩
  obtain ⟨C, hC⟩ : ∃ C : Nat, C = total N n 0 (once [] (ns.map (·.2))) := ⟨_, rfl⟩
  rw [← hC]
  have HCNT : Hid (∀ (w1 : World) (v : Value), Keeps [] w w1 → w1.ownsRow w.heap.size 9 1 v ns.length (((ns.map (·.2)).map (T N o)).map Value.string) → Calls Tryz.prog 97 #[.pointer (some ⟨r, 0, none⟩), v, .slice (some ⟨ob, 0, none⟩) n ocap] w1 fun e w' => e = .returned (.int .i64 (C : Int)) ∧ Keeps [] w1 w') := by
    intro w1 v hk hown
    have hown' := hown
    rcases Nat.eq_zero_or_pos ns.length with h0 | h0
    · have e : ns = [] := List.length_eq_zero_iff.1 h0
      obtain ⟨a, cap', rfl⟩ : ∃ a cap', v = .slice a 0 cap' := by
        rcases hown.2 with ⟨rfl, _⟩ | ⟨g, cap', cur, rfl, hb, hgg, rest⟩
        · exact ⟨none, 0, rfl⟩
        · exact ⟨_, cap', by rw [h0]⟩
      refine (rcount_nil (o := o) hn8 (hk.cell h.c0 (by simp)) (fun k hk' => hk.cell (hord k hk') (by simp))).mono ?_
      rintro e2 w2 ⟨rfl, rfl⟩
      refine ⟨?_, Keeps.refl _ _⟩
      rw [hC, e]
      simp [once, total_nil]
    · rcases hown.2 with ⟨_, h1⟩ | ⟨g, cap', cur, rfl, hb, hgg, rest⟩
      · omega
      · refine (rcount_any (n := n) (nm := ns.map (·.2)) hw hn8 o (hk.cell h.c0 (by simp)) (by simp) h0 (by omega) ?_ ?_ (fun k hk' => hk.cell (hord k hk') (by simp))).mono ?_
        · intro z hz
          simp only [List.mem_map] at hz
          obtain ⟨p, hp, rfl⟩ := hz
          exact hok p hp
        · intro j hj
          rw [World.ownsRow.cellAt hown' j (by simp at hj; omega)]
          simp only [List.getElem?_map, List.getElem?_eq_getElem (by simpa using hj : j < ns.length), Option.map_some, List.getElem_map]
        · rintro e w2 ⟨rfl, hk2⟩
          rw [hC]
          exact ⟨rfl, hk2⟩
  clear h hC hlen hord hok hw
  have k0 : Keeps [] w w.drew := (Keeps.refl _ _).drew
  go_enter Tryz.func58, Tryz.ntmps58
  go_wp2_with fail
  go_region_held3 (fun w' => w'.cell? ⟨r, 3, none⟩ = some (.slice (some ⟨ob, 0, none⟩) n ocap))
    (first | exact c3 | exact k0.cell c3 (by simp) | exact k1.cell c3 (by simp) | exact k4.cell c3 (by simp) | assumption)
    (first
      | (go_at_call 98; refine (HALL.out _ k0).mono ?_; rintro e w1 ⟨v, rfl, hown, k1⟩)
      | (go_at_call 97; refine (HCNT.out _ _ k1 hown).mono ?_; rintro e w3 ⟨rfl, hk4⟩; have k4 := k1.trans hk4))
  go_wp2_with fail
  go_ret
  exact ⟨rfl, k4⟩

end
end Go.Proofs.YtmgjegokkbghlaaGreat
