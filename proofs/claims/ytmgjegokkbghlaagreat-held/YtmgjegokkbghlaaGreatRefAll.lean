/- The document's store in memory: all, Same, True. -/
import Derived.Test.YtmgjegokkbghlaaGreatRefStore
namespace Go.Proofs.YtmgjegokkbghlaaGreat
open Go.RowKit Go.Maps Bdd
attribute [local go_sem ↓] Go.wp_at_zero Go.wp_at_succ

theorem Held.keeps {w w' : World} {r : Nat} {lv : Value} {hs : List (Int × ByteArray)} {S : List Nat} (h : Held w r lv hs) (hk : Keeps S w w') (hr : r ∉ S) (hS : ∀ g, lv.ownBlock = some g → g ∉ S) : Held w' r lv hs := by
  refine ⟨hk.cell h.c4 hr, h.own.1, ?_⟩
  rcases h.own.2 with h' | ⟨g, cap, cur, rfl, hbg, hg, rest⟩
  · exact .inl h'
  · refine .inr ⟨g, cap, cur, rfl, hbg, ?_, rest⟩
    rw [hk.block g (Array.getElem?_eq_some_iff.1 hg).1 (hS g rfl)]
    exact hg

/-- the texts of what is held -/
def texts (hs : List (Int × ByteArray)) : List Value := hs.map fun p => .string p.2

set_option maxRecDepth 100000 in
set_option maxHeartbeats 1000000 in
theorem rall_any {w : World} {r : Nat} {lv : Value} {hs : List (Int × ByteArray)} (hh : Held w r lv hs) (hl : hs.length ≤ 60) :
    Calls Tryz.prog 98 #[.pointer (some ⟨r, 0, none⟩)] w fun e w' => ∃ v, e = .returned v ∧ w'.ownsRow w.heap.size 9 1 v hs.length (texts hs) ∧ Keeps [] w w' := by
  obtain ⟨i0, hI0, hz0, hz1, hz2⟩ := info_parts info9
  have hml : 1000000 < maxLen := by decide
  obtain ⟨a, cap, rfl⟩ := hh.form
  have c4 := hh.c4
  obtain ⟨m, hm⟩ : ∃ m, m = hs.length := ⟨_, rfl⟩
  rw [← hm] at hh c4 hl
  rw [← hm]
  have Hm : Hid (m = hs.length) := hm
  have HH : Hid (Held w r (.slice a m cap) hs) := hh
  clear hh hm
  go_enter Tryz.func98, Tryz.ntmps98
  go_wp2_with fail
  go_loopw [3, 4] (fun v x wr => ∃ j : Nat, j ≤ m ∧ x = .int .i64 j ∧ wr.ownsRow w.heap.size 9 1 v j (texts (hs.take j)) ∧ Keeps [] w wr) (fun _ x _ => m - (intOf x).toNat)
  case atStart => exact ⟨0, by omega, rfl, World.ownsRow_nil _ _ _ _, Keeps.refl _ _⟩
  case round =>
    obtain ⟨j, hj, rfl, hown, hk⟩ := hrel
    have hbase := hk.size
    have c4' := hk.cell c4 (by simp)
    by_cases hlt : j < m
    · have hj0 : (0 : Int) ≤ (j : Int) := by omega
      have hj1 : (j : Int) < (m : Int) := by omega
      have hjl : j < hs.length := by rw [← Hm.out]; exact hlt
      obtain ⟨g, cap', e, h1, h2⟩ := HH.out.cell hjl
      have ea : a = some ⟨g, 0, none⟩ := by simp at e; exact e.1
      subst ea
      obtain ⟨S, hS⟩ : ∃ S, S = hs[j].2 := ⟨_, rfl⟩
      rw [← hS] at h2
      have h2' := hk.cell h2 (by simp)
      have HT : Hid (texts (hs.take (j + 1)) = texts (hs.take j) ++ [.string S]) := by show _ = _; rw [take_snoc hjl, hS]; simp only [texts, List.map_append, List.map_cons, List.map_nil]
      clear hS e h1 h2
      go_wp2_with (first
        | (at_builtin; refine wpList_append_own_at _ rfl _ _ 123 rfl w.heap.size 9 i0 (.string ByteArray.empty) 1 16 Tryz.underlying123 hI0 hz0 hz1 hz2 rfl (by decide) _ j _ rfl (hown.alloc _) ⟨wr.heap.size, 0, none⟩ 1 1 [.string S] rfl rfl (cell_one_new _ _ _) (by simp [Value.oneCell']) (by omega) (by omega) (by simp; omega) ?_; intro v' w1 hown' hgrow hnil hloc)
        | fail)
      go_roundw
      case rel =>
        refine ⟨j + 1, by omega, by go_num, ?_, (hk.alloc _).grown hgrow (fun k hk' => Or.inr (hown.lt k hk').1)⟩
        rw [HT.out]
        exact hown'
      case measure => simp [intOf]; omega
    · have e : j = m := by omega
      subst e
      have HT : Hid (texts (hs.take j) = texts hs) := by show _ = _; rw [List.take_of_length_le (by rw [← Hm.out]; exact Nat.le_refl _)]
      go_wp2_with fail
      go_ret
      exact ⟨_, rfl, by rw [← HT.out]; exact hown, hk⟩

/-- what 'Same' answers -/
def sameV (hs : List (Int × ByteArray)) (f g : Int) : Value := match hs.find? (fun p => p.1 == f), hs.find? (fun p => p.1 == g) with
  | some p, some q => .tuple #[.bool (p.2.toList == q.2.toList), .int .i64 0]
  | _, _ => .tuple #[.bool false, .int .i64 2]

set_option maxRecDepth 100000 in
set_option maxHeartbeats 1000000 in
theorem rsame_any {w : World} {r : Nat} {lv : Value} {hs : List (Int × ByteArray)} (hh : Held w r lv hs) (hl : hs.length ≤ 60) (f g : Int) :
    Calls Tryz.prog 49 #[.pointer (some ⟨r, 0, none⟩), .int .i64 f, .int .i64 g] w fun e w' => e = .returned (sameV hs f g) ∧ w = w' := by
  have hf := rof_any hh hl f
  have hg := rof_any hh hl g
  have HF : Hid (Calls Tryz.prog 42 #[.pointer (some ⟨r, 0, none⟩), .int .i64 f] w fun e w' => e = .returned (ofV hs f) ∧ w = w') := hf
  have HG : Hid (Calls Tryz.prog 42 #[.pointer (some ⟨r, 0, none⟩), .int .i64 g] w fun e w' => e = .returned (ofV hs g) ∧ w = w') := hg
  clear hf hg hh
  unfold ofV at HF HG
  unfold sameV
  cases ef : hs.find? (fun p => p.1 == f) <;> cases eg : hs.find? (fun p => p.1 == g) <;> rw [ef] at HF <;> rw [eg] at HG <;> simp only [] <;> clear ef eg <;>
  ( go_enter Tryz.func49, Tryz.ntmps49
    go_wp2_with fail
    refine HF.out.mono ?_
    rintro e w1 ⟨rfl, rfl⟩
    go_wp2_with fail
    refine HG.out.mono ?_
    rintro e w1 ⟨rfl, rfl⟩
    go_wp2_with fail
    go_ret2
    exact ⟨rfl, by first | rfl | trivial⟩)

/-- of how many of the first j assignments -/
def trues (n : Nat) (F : (Int → Bool) → Bool) (j : Nat) : Nat := ((List.range j).filter fun i => F (asgN n i)).length
theorem trues_succ (n : Nat) (F : (Int → Bool) → Bool) (j : Nat) : ((trues n F (j + 1) : Nat) : Int) = (trues n F j : Int) + bI (F (asgN n j)) := by
  unfold trues
  rw [List.range_succ, List.filter_append]
  cases h : F (asgN n j) <;> simp [h, bI]
theorem trues_le (n : Nat) (F : (Int → Bool) → Bool) (j : Nat) : trues n F j ≤ j := by
  unfold trues
  exact Nat.le_trans (List.length_filter_le _ _) (by simp)

set_option maxRecDepth 100000 in
set_option maxHeartbeats 1000000 in
theorem rtrue_some {w : World} {r n : Nat} {lv : Value} {hs : List (Int × ByteArray)} (hn8 : n ≤ 8) (hh : Held w r lv hs) (hl : hs.length ≤ 60) {f : Int} {F : (Int → Bool) → Bool} {p : Int × ByteArray} (hf : hs.find? (fun p => p.1 == f) = some p) (hp : p.2 = txt n F) :
    Calls Tryz.prog 56 #[.pointer (some ⟨r, 0, none⟩), .int .i64 f] w fun e w' => e = .returned (.tuple #[.int .i64 (trues n F (2 ^ n) : Int), .int .i64 0]) ∧ w = w' := by
  have hf := rof_any hh hl f
  have hp8 : 2 ^ n ≤ 2 ^ 8 := Nat.pow_le_pow_right (by omega) hn8
  have hlen : ∀ ty (w : World), (Builtin.len_ #[9] ty #[.string (txt n F)]).run Tryz.prog w = .ok (goInt ((2 ^ n : Nat) : Int)) w := fun ty w => by rw [run_len_string w 9 ty (txt n F) Tryz.underlying9, txt_size]
  unfold ofV at hf
  rw [‹hs.find? (fun p => p.1 == f) = some p›] at hf
  simp only [hp] at hf
  obtain ⟨S, hS⟩ : ∃ S, S = txt n F := ⟨_, rfl⟩
  obtain ⟨M, hM⟩ : ∃ M, M = 2 ^ n := ⟨_, rfl⟩
  have HI : Hid (∀ (i : Nat) (w : World), i < M → (Instr.index 9 (.string S) (.int .i64 (i : Int))).run Tryz.prog w = .ok (.int .u8 (bI (F (asgN n i)))) w) := fun i w hi => by rw [hS]; exact txt_index F (by omega) w
  rw [← hS] at hlen hf
  rw [← hM] at hlen hp8 ⊢
  have HF : Hid (Calls Tryz.prog 42 #[.pointer (some ⟨r, 0, none⟩), .int .i64 f] w fun e w' => e = .returned (.tuple #[.string S, .bool true]) ∧ w = w') := hf
  clear hf hS hM hp hh
  go_enter Tryz.func56, Tryz.ntmps56
  go_wp2_with fail
  refine HF.out.mono ?_
  rintro e w1 ⟨rfl, rfl⟩
  go_wp2_with fail
  go_loopw [8, 9] (fun v x wr => ∃ j : Nat, j ≤ M ∧ x = .int .i64 j ∧ v = .int .i64 (trues n F j : Int) ∧ w = wr) (fun _ x _ => M - (intOf x).toNat)
  case atStart => exact ⟨0, by omega, rfl, rfl, rfl⟩
  case round =>
    obtain ⟨j, hj, rfl, rfl, rfl⟩ := hrel
    by_cases hlt : j < M
    · have hj0 : (0 : Int) ≤ (j : Int) := by omega
      have hj1 : (j : Int) < (M : Int) := by omega
      have i2 := fun w => HI.out j w hlt
      have hle := trues_le n F j
      have HN : Hid (((trues n F (j + 1) : Nat) : Int) = (trues n F j : Int) + bI (F (asgN n j))) := trues_succ n F j
      have hy01 : 0 ≤ bI (F (asgN n j)) ∧ bI (F (asgN n j)) ≤ 1 := by cases F (asgN n j) <;> simp [bI]
      obtain ⟨hy0, hy1⟩ := hy01
      generalize bI (F (asgN n j)) = y at *
      generalize trues n F j = t at *
      have ht0 : (0 : Int) ≤ (t : Int) := by omega
      go_wp2_with fail
      go_roundw
      case rel => exact ⟨j + 1, by omega, by go_num, by rw [HN.out], by first | rfl | trivial⟩
      case measure => simp [intOf]; omega
    · have e : j = M := by omega
      subst e
      go_wp2_with fail
      go_ret2
      exact ⟨rfl, by first | rfl | trivial⟩

set_option maxRecDepth 100000 in
set_option maxHeartbeats 1000000 in
theorem rtrue_none {w : World} {r : Nat} {lv : Value} {hs : List (Int × ByteArray)} (hh : Held w r lv hs) (hl : hs.length ≤ 60) {f : Int} (hn : hs.find? (fun p => p.1 == f) = none) :
    Calls Tryz.prog 56 #[.pointer (some ⟨r, 0, none⟩), .int .i64 f] w fun e w' => e = .returned (.tuple #[.int .i64 0, .int .i64 2]) ∧ w = w' := by
  have hf := rof_any hh hl f
  unfold ofV at hf
  rw [hn] at hf
  simp only [] at hf
  have HF : Hid (Calls Tryz.prog 42 #[.pointer (some ⟨r, 0, none⟩), .int .i64 f] w fun e w' => e = .returned (.tuple #[.string ByteArray.empty, .bool false]) ∧ w = w') := hf
  clear hf hh hn
  go_enter Tryz.func56, Tryz.ntmps56
  go_wp2_with fail
  refine HF.out.mono ?_
  rintro e w1 ⟨rfl, rfl⟩
  go_wp2_with fail
  go_ret2
  exact ⟨rfl, by first | rfl | trivial⟩

end Go.Proofs.YtmgjegokkbghlaaGreat
