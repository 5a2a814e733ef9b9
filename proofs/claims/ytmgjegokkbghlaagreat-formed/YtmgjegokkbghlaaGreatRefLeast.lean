/- The document's store: Least, Size. -/
import Derived.Test.YtmgjegokkbghlaaGreatRefForm
namespace Go.Proofs.YtmgjegokkbghlaaGreat
open Go.RowKit Go.Maps Bdd
set_option linter.unusedVariables false
attribute [local go_sem ↓] Go.wp_at_zero Go.wp_at_succ

/-- the digits of a number, as a list has them -/
def digB (n i k : Nat) : List Value := (List.range k).map fun v : Nat => .bool (asgN n i (v : Int))
theorem digB_succ (n i k : Nat) : digB n i (k + 1) = digB n i k ++ [.bool (asgN n i (k : Int))] := by simp [digB, List.range_succ]

set_option maxRecDepth 100000 in
set_option maxHeartbeats 1000000 in
theorem rleast_any {w : World} {r n : Nat} {lv : Value} {hs : List (Int × ByteArray)} (hn8 : n ≤ 8) (hc : w.cell? ⟨r, 0, none⟩ = some (.int .i64 (n : Int))) (hh : Held w r lv hs) (hl : hs.length ≤ 60) {f : Int} {F : (Int → Bool) → Bool} (hf : HasT n hs f F) :
    Calls Tryz.prog 60 #[.pointer (some ⟨r, 0, none⟩), .int .i64 f] w fun e w' => Keeps [] w w' ∧ (((∀ i, i < 2 ^ n → F (asgN n i) = false) ∧ e = .returned (.tuple #[.slice none 0 0, .int .i64 0])) ∨
      ∃ i v, i < 2 ^ n ∧ F (asgN n i) = true ∧ (∀ k, k < i → F (asgN n k) = false) ∧ e = .returned (.tuple #[v, .int .i64 0]) ∧ w'.ownsRow w.heap.size 4 1 v n (digB n i n)) := by
  obtain ⟨i4, hi4, z40, z41, z42⟩ := info_parts info4
  have hml : 1000 < maxLen := by decide
  obtain ⟨p, hf1, hf2⟩ := hf
  have hof := rof_some (n := n) (F := F) hh hl hf1 hf2
  obtain ⟨S, hS⟩ : ∃ S, S = txt n F := ⟨_, rfl⟩
  obtain ⟨P, hP⟩ : ∃ P : Nat, P = 2 ^ n := ⟨_, rfl⟩
  have h256 : P ≤ 256 := by
    have : 2 ^ n ≤ 2 ^ 8 := Nat.pow_le_pow_right (by omega) hn8
    omega
  have HI : Hid (∀ (i : Nat) (w : World), i < P → (Instr.index 9 (.string S) (.int .i64 (i : Int))).run Tryz.prog w = .ok (.int .u8 (bI (F (asgN n i)))) w) := fun i w hi => by rw [hS]; exact txt_index F (by omega) w
  have hlen : ∀ ty (w : World), (Builtin.len_ #[9] ty #[.string S]).run Tryz.prog w = .ok (goInt (P : Int)) w := fun ty w => by rw [run_len_string w 9 ty S Tryz.underlying9, hS, txt_size, hP]
  rw [← hS] at hof
  have HPP : Hid (P = 2 ^ n) := hP
  have hP0 : (0 : Int) ≤ (P : Int) := by omega
  have hP1 : (P : Int) ≤ 256 := by omega
  have hn0 : (0 : Int) ≤ (n : Int) := by omega
  have hn9 : (n : Int) ≤ 8 := by omega
  clear hS hP hf1 hf2 hh
  go_enter Tryz.func60, Tryz.ntmps60
  go_wp2_with fail
  refine hof.mono ?_
  rintro e w0 ⟨rfl, rfl⟩
  go_wp2_with fail
  go_loopw [8] (fun x wr => ∃ j : Nat, j ≤ P ∧ x = .int .i64 j ∧ Hid (∀ k, k < j → F (asgN n k) = false) ∧ w = wr) (fun x _ => P - (intOf x).toNat)
  case atStart => exact ⟨0, by omega, rfl, fun k hk => by omega, rfl⟩
  case round =>
    obtain ⟨j, hj, rfl, hall, rfl⟩ := hrel
    by_cases hlt : j < P
    · have hj0 : (0 : Int) ≤ (j : Int) := by omega
      have hj1 : (j : Int) < (P : Int) := by omega
      have i2 := fun w => HI.out j w hlt
      have HFJ : Hid (F (asgN n j) = true ∨ F (asgN n j) = false) := by cases F (asgN n j) <;> simp [Hid]
      rcases HFJ.out with hy | hy
      · have HY : Hid (F (asgN n j) = true) := hy
        rw [hy] at i2
        simp only [bI] at i2
        clear hy HFJ
        have hjn : j < 2 ^ n := by rw [← HPP.out]; exact hlt
        go_wp2_with fail
        go_loopw [9, 10] (fun o x wr => ∃ k : Nat, k ≤ n ∧ x = .int .i64 k ∧ wr.ownsRow w.heap.size 4 1 o k (digB n j k) ∧ Keeps [] w wr) (fun _ x _ => n - (intOf x).toNat)
        case atStart => exact ⟨0, by omega, rfl, World.ownsRow_nil _ _ _ _, Keeps.refl _ _⟩
        case round =>
          obtain ⟨k, hk, rfl, hown, hkw⟩ := hrel
          have hcr := hkw.cell hc (by simp)
          by_cases hlk : k < n
          · have hk0 : (0 : Int) ≤ (k : Int) := by omega
            have hk1 : (k : Int) < (n : Int) := by omega
            have hb := rbit_any (w := wr) hn8 hcr hjn hlk
            have hsz := hkw.size
            obtain ⟨b, hb'⟩ : ∃ b, b = j.testBit (n - 1 - k) := ⟨_, rfl⟩
            rw [← hb'] at hb
            have HBB : Hid (b = asgN n j (k : Int)) := by
              show b = asgN n j (k : Int)
              rw [hb']
              unfold asgN
              rw [Int.toNat_natCast]
            clear hb'
            go_wp2_with fail
            refine hb.mono ?_
            rintro e w1 ⟨rfl, rfl⟩
            cases b <;> simp only [bI] <;>
              (go_wp2_with (first
                | (at_builtin; refine wpList_append_own_at _ rfl _ _ 32 rfl w.heap.size 4 i4 (.bool false) 1 1 Tryz.underlying32 hi4 z40 z41 z42 rfl (by decide) _ k (digB n j k) rfl (hown.alloc _) ⟨wr.heap.size, 0, none⟩ 1 1 [.bool _] rfl rfl (cell_one_new _ _ _) (by simp [Value.oneCell']) (by omega) (by omega) (by simp; omega) ?_; intro v' w2 hown' hgrow hnil hloc; have kk : Keeps [] w w2 := (hkw.alloc _).grown hgrow (fun q hq => Or.inr (hown.lt q hq).1))
                | fail)
               go_roundw
               case rel => exact ⟨k + 1, by omega, by go_num, by rw [digB_succ, ← HBB.out]; exact hown', kk⟩
               case measure => simp [intOf]; omega)
          · have hk1 : (n : Int) ≤ (k : Int) := by omega
            have ek : k = n := by omega
            subst ek
            have HO : Hid (wr.ownsRow w.heap.size 4 1 u9 k (digB k j k)) := hown
            clear hown
            go_wp2_with fail
            go_ret2
            exact ⟨hkw, Or.inr ⟨j, u9, hjn, HY.out, hall.out, rfl, HO.out⟩⟩
      · have HY : Hid (F (asgN n j) = false) := hy
        rw [hy] at i2
        simp only [bI] at i2
        clear hy HFJ
        go_wp2_with fail
        go_roundw
        case rel =>
          refine ⟨j + 1, by omega, by go_num, fun k hk => ?_, by first | rfl | trivial⟩
          by_cases e : k = j
          · subst e; exact HY.out
          · exact hall.out k (by omega)
        case measure => simp [intOf]; omega
    · have hj1 : (P : Int) ≤ (j : Int) := by omega
      have ej : j = P := by omega
      go_wp2_with fail
      go_ret2
      exact ⟨Keeps.refl _ _, Or.inl ⟨fun i hi => hall.out i (by rw [ej, HPP.out]; exact hi), rfl⟩⟩

set_option maxRecDepth 100000 in
set_option maxHeartbeats 1000000 in
theorem rsizeof_any {N : Tab} {last : Int} {n : Nat} {w : World} {r : Nat} {lim la : Int} {ov lv : Value} {o : Ord n} {hs : List (Int × ByteArray)} {y f : Int} (hw : Wf N (n : Int) last) (hn8 : n ≤ 8) (h : RSt w r n lim la ov lv o hs) (hl : hs.length ≤ 60) (hy : Ok N 0 y) (hf : HasT n hs f (FV N o y)) :
    Calls Tryz.prog 62 #[.pointer (some ⟨r, 0, none⟩), .int .i64 f] w fun e w' => e = .returned (.tuple #[.int .i64 ((total N n 0 (once [] [y]) : Nat) : Int), .int .i64 0]) ∧ Keeps [] w w' := by
  obtain ⟨p, hf1, hf2⟩ := hf
  have hof := rof_some (n := n) (F := FV N o y) h.held hl hf1 hf2
  obtain ⟨ob, ocap, eov, hobr, hobl, hord⟩ := h.ord
  subst eov
  have c3 := h.c3
  have c0 := h.c0
  obtain ⟨S, hS⟩ : ∃ S, S = txt n (FV N o y) := ⟨_, rfl⟩
  obtain ⟨C, hC⟩ : ∃ C : Nat, C = total N n 0 (once [] [y]) := ⟨_, rfl⟩
  rw [← hS] at hof
  rw [← hC]
  have HC : Hid (Calls Tryz.prog 97 #[.pointer (some ⟨r, 0, none⟩), .slice (some ⟨w.heap.size, 0, none⟩) 1 1, .slice (some ⟨ob, 0, none⟩) n ocap] (w.alloc (.cells #[.string S] 9)) fun e w' => e = .returned (.int .i64 (C : Int)) ∧ Keeps [] (w.alloc (.cells #[.string S] 9)) w') := by
    have hk : Keeps [] w (w.alloc (.cells #[.string S] 9)) := (Keeps.refl _ _).alloc _
    refine (rcount_any (n := n) (nm := [y]) (m := 1) hw hn8 o (hk.cell c0 (by simp)) rfl (by omega) (by omega) (fun z hz => by simp at hz; subst hz; exact hy) (fun j hj => ?_) (fun k hk' => hk.cell (hord k hk') (by simp))).mono ?_
    · have ej : j = 0 := by simp at hj; omega
      subst ej
      rw [cell_new w #[.string S] 9 rfl rfl, hS]
      rfl
    · rintro e w' ⟨rfl, hk'⟩
      rw [hC]
      exact ⟨rfl, hk'⟩
  have hlr : r < w.heap.size := cell_lt (p := ⟨r, 0, none⟩) c0
  clear hS hC hf1 hf2 hord h
  go_enter Tryz.func62, Tryz.ntmps62
  go_wp2_with fail
  refine hof.mono ?_
  rintro e w0 ⟨rfl, rfl⟩
  go_wp2_with fail
  refine HC.out.mono ?_
  rintro e w1 ⟨rfl, hk⟩
  go_wp2_with fail
  go_ret2
  exact ⟨rfl, ((Keeps.refl _ _).alloc _).trans hk⟩

end Go.Proofs.YtmgjegokkbghlaaGreat
