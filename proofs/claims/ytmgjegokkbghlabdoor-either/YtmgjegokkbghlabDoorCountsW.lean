/- counter, walked. Counts, walked. -/
import Derived.Test.YtmgjegokkbghlabDoorNameT
import Derived.Test.YtmgjegokkbghlabDoorTexts
import Derived.Test.YtmgjegokkbghlabDoorExplo
import Derived.Test.YtmgjegokkbghlabDoorCheckC
namespace Go.Proofs.YtmgjegokkbghlabDoor
open Go.RowKit Go.Maps Circ Gram Runs
set_option linter.unusedVariables false

theorem infoSt : (Tryd.prog.info? 9).map (fun i => (i.zero, i.size, i.bytes)) = some (some (.string ⟨#[]⟩), 1, 16) := by kernel_rfl
def strC (l : List (List UInt8)) : List Value := l.map fun x => .string (mk x)
theorem strC_app (a b : List (List UInt8)) : strC (a ++ b) = strC a ++ strC b := by simp [strC]
theorem strC_len (a : List (List UInt8)) : (strC a).length = a.length := by simp [strC]
theorem lnsC_len (p : Nat) : ∀ k, (lnsC p k).length = 2 + 2 * k
  | 0 => rfl
  | k + 1 => by simp [lnsC, lnsC_len p k]; omega
theorem fullC_len (p n : Nat) : (fullC p n).length = 2 * n + 4 := by simp [fullC, lnsC_len]; omega
theorem carC_len (p : Nat) : ∀ k, (carC p k).length = 2 + 5 * k
  | 0 => rfl
  | k + 1 => by simp [carC, carC_len p k, nmT]; omega
theorem allC_len (p : Nat) : ∀ k, (allC p k).length = 2 + 3 * k
  | 0 => rfl
  | k + 1 => by simp [allC, allC_len p k, nmT]; omega
theorem lnsC_each (p : Nat) : ∀ k, ∀ x ∈ lnsC p k, x.length ≤ 30 + 5 * k
  | 0, x, hx => by simp [lnsC] at hx; rcases hx with rfl | rfl <;> simp [nmT]
  | k + 1, x, hx => by
    simp only [lnsC, List.mem_append, List.mem_cons, List.not_mem_nil, or_false] at hx
    rcases hx with hx | rfl | rfl
    · have := lnsC_each p k x hx; omega
    · simp [nmT]; omega
    · simp [nmT, carC_len]; omega
theorem fullC_each (p n : Nat) : ∀ x ∈ fullC p n, x.length ≤ 30 + 5 * n := fun x hx => by
  unfold fullC at hx
  simp only [List.mem_append, List.mem_cons, List.not_mem_nil, or_false] at hx
  rcases hx with hx | rfl | rfl
  · exact lnsC_each p n x hx
  · simp [allC_len]; omega
  · simp
theorem glue_snoc : ∀ (l : List (List UInt8)) (x : List UInt8), glue (l ++ [x]) = glue l ++ x ++ [10]
  | [], x => by simp [glue]
  | y :: r, x => by simp [glue, glue_snoc r x]
theorem glue_len {b : Nat} : ∀ (l : List (List UInt8)), (∀ x ∈ l, x.length ≤ b) → (glue l).length ≤ l.length * (b + 1)
  | [], _ => by simp [glue]
  | y :: r, h => by
    have h1 := h y (by simp)
    have h2 := glue_len r (fun x hx => h x (by simp [hx]))
    have h3 : (y :: r).length * (b + 1) = r.length * (b + 1) + (b + 1) := by rw [List.length_cons, Nat.succ_mul]
    simp only [glue, List.length_append, List.length_cons, List.length_nil] at h3 ⊢
    omega
theorem car_eq (p k : Nat) : mk (carC p k) ++ (⟨#[32, 38, 32]⟩ : ByteArray) ++ mk (nmT 108 p k) = mk (carC p (k + 1)) := by
  have h1 : mk (carC p k) ++ mk [32, 38, 32] = mk (carC p k ++ [32, 38, 32]) := mk_app _ _
  have h2 : mk (carC p k) ++ (⟨#[32, 38, 32]⟩ : ByteArray) = mk (carC p k ++ [32, 38, 32]) := h1
  rw [h2, mk_app]
  rfl
theorem all_eq (p k : Nat) : mk (allC p k) ++ (⟨#[38]⟩ : ByteArray) ++ mk (nmT 108 p k) = mk (allC p (k + 1)) := by
  have h1 : mk (allC p k) ++ mk [38] = mk (allC p k ++ [38]) := mk_app _ _
  have h2 : mk (allC p k) ++ (⟨#[38]⟩ : ByteArray) = mk (allC p k ++ [38]) := h1
  rw [h2, mk_app]
  rfl
theorem snoc_eq {a b x : List UInt8} (h : b = a ++ x ++ [10]) : mk a ++ mk x ++ (⟨#[10]⟩ : ByteArray) = mk b := by
  have h1 : mk (a ++ x) ++ mk [10] = mk (a ++ x ++ [10]) := mk_app _ _
  have h2 : mk (a ++ x) ++ (⟨#[10]⟩ : ByteArray) = mk (a ++ x ++ [10]) := h1
  rw [mk_app, h2, h]
/-- the lines in their order -/
def ordC (p n : Nat) (odd : Bool) : List (List UInt8) := if odd then (fullC p n).reverse else fullC p n
def oddW (way : Int) : Bool := !(way.tmod 2 == 0)

set_option maxRecDepth 100000 in
set_option maxHeartbeats 1000000 in
theorem counter_any {w : World} {n : Nat} {more way : Int} (hn : n ≤ 4) (h2 : FitsI more) (h3 : FitsI way) {p : Nat} (hp : (p : Int) = pickF more 20) :
    Calls Tryd.prog 8 #[.int .i64 (n : Int), .int .i64 more, .int .i64 way] w fun e w' => e = .returned (.string (mk (txtC p n (oddW way)))) ∧ Keeps [] w w' := by
  obtain ⟨i0, hi0, hz0, hz1, hz2⟩ := info_parts infoSt
  have hml : 2000000 < maxLen := by decide
  have HN : Hid (∀ (w : World) (c : UInt8) (k : Nat), k < 5 → Calls Tryd.prog 9 #[.string (mk [c]), .int .i64 (k : Int), .int .i64 more] w fun e w' => e = .returned (.string (mk (nmT c p k))) ∧ Keeps [] w w') := fun w c k hk => name_any h2 hk hp
  have zg : ByteArray.size (mk (nmT 103 p 0)) = 2 := rfl
  have zq : ByteArray.size (mk (nmT 113 p 0)) = 2 := rfl
  clear hp
  go_enter Tryd.func8, Tryd.ntmps8
  go_wp2_with fail
  refine Calls.mono (HN.out _ 103 0 (by omega)) ?_
  rintro e w1 ⟨rfl, hk1⟩
  go_wp2_with fail
  refine Calls.mono (HN.out _ 113 0 (by omega)) ?_
  rintro e w2 ⟨rfl, hk2⟩
  have hk02 : Keeps [] w w2 := hk1.trans hk2
  have hsz2 := hk02.size
  have HRow := hid_intro (World.ownsRow_nil w2 w.heap.size 9 1)
  go_wp2_with (first
    | (at_builtin; refine wpList_append_own_at _ rfl _ _ 34 rfl w.heap.size 9 i0 (.string ⟨#[]⟩) 1 16 Tryd.underlying34 hi0 hz0 hz1 hz2 rfl (by decide) _ 0 [] rfl (HRow.out.alloc _) ⟨w2.heap.size, 0, none⟩ 2 2 [.string (⟨#[105, 110, 32]⟩ ++ mk (nmT 103 p 0)), .string (⟨#[105, 110, 32]⟩ ++ mk (nmT 113 p 0))] rfl rfl (cells_new _ _ _) (by simp [Value.oneCell']) (by omega) (by omega) (by simp; omega) ?_; intro v' w3 hown' hgrow hnil hloc; obtain ⟨g', cap', rfl⟩ := own_slice hown'; have HOW := hid_intro hown'; have HGR := hid_intro hgrow; clear hown' hgrow hloc hnil)
    | fail)
  have hk3 := push_old HRow.out HGR.out (Nat.le_refl _) hk02
  have hrow3 : w3.ownsRow w.heap.size 9 1 (.slice (some ⟨g', 0, none⟩) 2 cap') 2 (strC (lnsC p 0)) := by
    have := HOW.out
    rw [show ([] : List Value) ++ [.string (⟨#[105, 110, 32]⟩ ++ mk (nmT 103 p 0)), .string (⟨#[105, 110, 32]⟩ ++ mk (nmT 113 p 0))] = strC (lnsC p 0) by
      simp only [List.nil_append, strC, lnsC, List.map_cons, List.map_nil]
      rw [← mk_app, ← mk_app]; rfl] at this
    exact this
  have HR3 := hid_intro hrow3
  clear hrow3 HOW HGR HRow hk1 hk2 hk02 hsz2
  refine Calls.mono (HN.out _ 103 0 (by omega)) ?_
  rintro e w4 ⟨rfl, hk4⟩
  go_wp2_with fail
  refine Calls.mono (HN.out _ 113 0 (by omega)) ?_
  rintro e w5 ⟨rfl, hk5⟩
  have HR5 := hid_intro (row_keeps (row_keeps HR3.out hk4 (by simp)) hk5 (by simp))
  have hkw5 : Keeps [] w w5 := (hk3.trans hk4).trans hk5
  clear HR3
  go_wp2_with fail
  go_loopw [7, 8, 9, 10] (fun y7 y8 y9 y10 wr => ∃ (k m : Nat) (a : Option Addr) (c : Nat), k ≤ n ∧ m = 2 + 2 * k ∧ y7 = .slice a m c ∧ y8 = .string (mk (carC p k)) ∧ y9 = .string (mk (allC p k)) ∧ y10 = .int .i64 k ∧ wr.ownsRow w.heap.size 9 1 (.slice a m c) m (strC (lnsC p k)) ∧ Keeps [] w wr) (fun _ _ _ y10 _ => n - (intOf y10).toNat)
  case atStart => exact ⟨0, 2, _, _, by omega, rfl, rfl, rfl, rfl, rfl, HR5.out, hkw5⟩
  case round =>
    clear HR5 hkw5 hk3 hk4 hk5
    obtain ⟨k, m, a, c, hk, hm, rfl, rfl, rfl, rfl, hrow, hkw⟩ := hrel
    have HM := hid_intro hm
    have HRow := hid_intro hrow
    have hm10 : m ≤ 10 := by omega
    have hbw := hkw.size
    obtain ⟨Cs, hCs⟩ : ∃ Cs, ByteArray.size (mk (carC p k)) = Cs := ⟨_, rfl⟩
    obtain ⟨As, hAs⟩ : ∃ As, ByteArray.size (mk (allC p k)) = As := ⟨_, rfl⟩
    have hCA : Cs ≤ 100 ∧ As ≤ 100 := by
      have h1 := carC_len p k
      have h2 := allC_len p k
      rw [mk_size] at hCs hAs
      omega
    clear hm hrow
    by_cases hkn : k < n
    · have hj0 : (0 : Int) ≤ (k : Int) := by omega
      have hj1 : (k : Int) < (n : Int) := by omega
      have zk : ByteArray.size (mk (nmT 108 p k)) = 2 := rfl
      have o1 : ¬ 9223372036854775807 < 16 + Cs := by omega
      have o2 : ¬ 9223372036854775807 < 16 + Cs + 1 := by omega
      have o3 : ¬ 9223372036854775807 < Cs + 3 := by omega
      have o4 : ¬ 9223372036854775807 < Cs + 3 + 2 := by omega
      have o5 : ¬ 9223372036854775807 < As + 1 := by omega
      have o6 : ¬ 9223372036854775807 < As + 1 + 2 := by omega
      go_wp2_with fail
      refine Calls.mono (HN.out _ 108 k (by omega)) ?_
      rintro e w6 ⟨rfl, hk6⟩
      have HR6 := hid_intro (row_keeps HRow.out hk6 (by simp))
      have hsz6 := hk6.size
      go_wp2_with (first
        | (at_builtin; refine wpList_append_own_at _ rfl _ _ 34 rfl w.heap.size 9 i0 (.string ⟨#[]⟩) 1 16 Tryd.underlying34 hi0 hz0 hz1 hz2 rfl (by decide) _ m (strC (lnsC p k)) rfl (HR6.out.alloc _) ⟨w6.heap.size, 0, none⟩ 2 2 [_, _] rfl rfl (cells_new _ _ _) (by simp [Value.oneCell']) (by omega) (by omega) (by simp; omega) ?_; intro v' w7 hown' hgrow hnil hloc; obtain ⟨g', cap', rfl⟩ := own_slice hown'; have HOW := hid_intro hown'; have HGR := hid_intro hgrow; clear hown' hgrow hloc hnil)
        | fail)
      have hk7 := push_old HR6.out HGR.out (Nat.le_refl _) (hkw.trans hk6)
      have hrow7 : w7.ownsRow w.heap.size 9 1 (.slice (some ⟨g', 0, none⟩) (m + 2) cap') (m + 2) (strC (lnsC p (k + 1))) := by
        have h := HOW.out
        have e : strC (lnsC p (k + 1)) = strC (lnsC p k) ++ [.string (mk ([108, 97, 116, 99, 104, 32] ++ nmT 108 p k ++ [32, 48])), .string (mk ([110, 101, 120, 116, 32] ++ nmT 108 p k ++ [32, 61, 32] ++ nmT 108 p k ++ [32, 94, 32, 40] ++ carC p k ++ [41]))] := by
          rw [lnsC, strC_app]; rfl
        rw [e]
        simp only [← mk_app]
        exact h
      exact ⟨⟨k + 1, _, _, _, by omega, by have := HM.out; omega, rfl, congrArg Value.string (car_eq p k), congrArg Value.string (all_eq p k), by go_num, hrow7, hk7⟩, by simp [intOf]; omega⟩
    · obtain rfl : k = n := by omega
      have o1 : ¬ 9223372036854775807 < 6 + As := by omega
      go_wp2_with (first
        | (at_builtin; refine wpList_append_own_at _ rfl _ _ 34 rfl w.heap.size 9 i0 (.string ⟨#[]⟩) 1 16 Tryd.underlying34 hi0 hz0 hz1 hz2 rfl (by decide) _ m (strC (lnsC p k)) rfl (HRow.out.alloc _) ⟨wr.heap.size, 0, none⟩ 2 2 [_, _] rfl rfl (cells_new _ _ _) (by simp [Value.oneCell']) (by omega) (by omega) (by simp; omega) ?_; intro v' w7 hown' hgrow hnil hloc; obtain ⟨g', cap', rfl⟩ := own_slice hown'; have HOW := hid_intro hown'; have HGR := hid_intro hgrow; clear hown' hgrow hloc hnil)
        | fail)
      have hk7 := push_old HRow.out HGR.out (Nat.le_refl _) hkw
      have hrow7 : w7.ownsRow w.heap.size 9 1 (.slice (some ⟨g', 0, none⟩) (m + 2) cap') (m + 2) (strC (fullC p k)) := by
        have h := HOW.out
        have e : strC (fullC p k) = strC (lnsC p k) ++ [.string (mk ([98, 97, 100, 32, 61, 32] ++ allC p k)), .string (mk [])] := by
          rw [fullC, strC_app]; rfl
        rw [e]
        simp only [← mk_app]
        exact h
      obtain ⟨odd, hodd⟩ : ∃ odd, odd = oddW way := ⟨_, rfl⟩
      have hlen : (ordC p k odd).length = m + 2 := by
        have hm := HM.out
        unfold ordC
        split
        · rw [List.length_reverse, fullC_len]; omega
        · rw [fullC_len]; omega
      have heach : ∀ x ∈ ordC p k odd, x.length ≤ 50 := fun x hx => by
        have : x ∈ fullC p k := by
          unfold ordC at hx
          split at hx
          · exact List.mem_reverse.1 hx
          · exact hx
        have := fullC_each p k x this
        omega
      have HR7 := hid_intro hrow7
      have HLen := hid_intro hlen
      have HEach := hid_intro heach
      have HOdd := hid_intro hodd
      have hbt : (odd = true ∧ (way.tmod 2 == 0) = false) ∨ (odd = false ∧ (way.tmod 2 == 0) = true) := by
        rw [hodd]
        unfold oddW
        cases way.tmod 2 == 0
        · exact Or.inl ⟨rfl, rfl⟩
        · exact Or.inr ⟨rfl, rfl⟩
      clear hrow7 hlen heach HOW HGR HRow o1 hodd
      go_loopw [12, 13] (fun y12 y13 wq => ∃ i : Nat, i ≤ m + 2 ∧ y12 = .string (mk (glue ((ordC p k odd).take i))) ∧ y13 = .int .i64 i ∧ wq = w7) (fun _ y13 _ => m + 2 - (intOf y13).toNat)
      case atStart => exact ⟨0, by omega, rfl, rfl, rfl⟩
      case round =>
        obtain ⟨i, hi, rfl, rfl, hwq⟩ := hrel
        have hwq := hwq.symm
        subst hwq
        by_cases hil : i < m + 2
        · have hi0' : (0 : Int) ≤ (i : Int) := by omega
          have hi1 : (i : Int) < (m : Int) + 2 := by omega
          have hio : i < (ordC p k odd).length := by rw [HLen.out]; exact hil
          obtain ⟨S, hS⟩ : ∃ S, ByteArray.size (mk (glue ((ordC p k odd).take i))) = S := ⟨_, rfl⟩
          have hSb : S ≤ 1000 := by
            have h1 := glue_len (b := 50) ((ordC p k odd).take i) (fun x hx => HEach.out x (List.mem_of_mem_take hx))
            rw [mk_size] at hS
            have h2 : ((ordC p k odd).take i).length ≤ 12 := by rw [List.length_take]; omega
            have h3 : ((ordC p k odd).take i).length * (50 + 1) ≤ 12 * 51 := Nat.mul_le_mul_right _ h2
            omega
          obtain ⟨x, hx⟩ : ∃ x, x = (ordC p k odd)[i] := ⟨_, rfl⟩
          have hxl : x.length ≤ 50 := HEach.out x (by rw [hx]; exact List.getElem_mem hio)
          obtain ⟨E, hE⟩ : ∃ E, ByteArray.size (mk x) = E := ⟨_, rfl⟩
          have hEb : E ≤ 50 := by rw [mk_size] at hE; omega
          have hnext : glue ((ordC p k odd).take (i + 1)) = glue ((ordC p k odd).take i) ++ x ++ [10] := by
            rw [List.take_succ_eq_append_getElem hio, glue_snoc, hx]
          have HNx := hid_intro hnext
          have o1 : ¬ 9223372036854775807 < S + E := by omega
          have o2 : ¬ 9223372036854775807 < S + E + 1 := by omega
          have hcl : ∀ q (hq : q < m + 2), w7.cell? ⟨g', q, none⟩ = (strC (fullC p k))[q]? := fun q hq => HR7.out.cellAt q (by omega)
          rcases hbt with ⟨rfl, hb⟩ | ⟨rfl, hb⟩
          · obtain ⟨q, hq⟩ : ∃ q, q + i = m + 1 := ⟨m + 1 - i, by omega⟩
            have hc : w7.cell? ⟨g', q, none⟩ = some (.string (mk x)) := by
              rw [hcl q (by omega), strC, List.getElem?_map, hx]
              have hl := HLen.out
              have h1 : (ordC p k true)[i] = (fullC p k)[q]'(by simp [ordC] at hl; omega) := by
                simp only [ordC, if_true, List.getElem_reverse]
                congr 1
                simp [ordC] at hl
                omega
              rw [h1, List.getElem?_eq_getElem]
              rfl
            have hqi : (m : Int) + 2 - 1 - (i : Int) = (q : Int) := by omega
            have hqi' : (m : Int) + 1 - (i : Int) = (q : Int) := by omega
            have hq0 : (0 : Int) ≤ (q : Int) := by omega
            have hq1 : (q : Int) < (m : Int) + 2 := by omega
            clear hx hcl hnext
            go_wp2_with fail
            exact ⟨⟨i + 1, by omega, congrArg Value.string (snoc_eq HNx.out), by go_num, trivial⟩, by simp [intOf]; omega⟩
          · have hc : w7.cell? ⟨g', i, none⟩ = some (.string (mk x)) := by
              rw [hcl i (by omega), strC, List.getElem?_map, hx]
              have hl := HLen.out
              have h1 : (ordC p k false)[i] = (fullC p k)[i]'(by simp [ordC] at hl; omega) := by
                simp only [ordC, Bool.false_eq_true, if_false]
              rw [h1, List.getElem?_eq_getElem]
              rfl
            clear hx hcl hnext
            go_wp2_with fail
            exact ⟨⟨i + 1, by omega, congrArg Value.string (snoc_eq HNx.out), by go_num, trivial⟩, by simp [intOf]; omega⟩
        · obtain rfl : i = m + 2 := by omega
          have hall : (ordC p k odd).take (m + 2) = ordC p k odd := List.take_of_length_le (by rw [HLen.out]; omega)
          rw [hall]
          have hfin : glue (ordC p k odd) = txtC p k (oddW way) := by rw [← HOdd.out]; rfl
          have HFin := hid_intro hfin
          clear hall hfin
          go_wp2_with fail
          go_ret
          exact ⟨congrArg (fun x => Ending.returned (.string (mk x))) HFin.out, hk7⟩

end Go.Proofs.YtmgjegokkbghlabDoor

namespace Go.Proofs.YtmgjegokkbghlabDoor
open Go.RowKit Go.Maps Circ Gram Runs
set_option linter.unusedVariables false
attribute [local go_sem ↓] Go.wp_at_zero Go.wp_at_succ

theorem dig_zero : ∀ n, n < 5 → ∀ i, i < n → dig n 0 i = false := by decide
/-- what Check answers to a circuit that counts -/
def CountIs (w' : World) (n P : Nat) (odd : Bool) (e : Ending) : Prop := ∃ (S V : Nat) (bk : Nat → Nat), e = .returned (.tuple #[.agg #[.bool false, .int .i64 0, .slice (some ⟨S, 0, none⟩) n n, .slice (some ⟨V, 0, none⟩) P P], .int .i64 0, .int .i64 0]) ∧
  (∀ i, i < n → w'.cell? ⟨S, i, none⟩ = some (.bool false)) ∧ (∀ j, j < P → w'.cell? ⟨V, j, none⟩ = some (.slice (some ⟨bk j, 0, none⟩) 2 2)) ∧ (∀ j, j + 1 < P → w'.cell? ⟨bk j, if odd then 1 else 0, none⟩ = some (.bool true)) ∧ w'.cell? ⟨bk (P - 1), if odd then 0 else 1, none⟩ = some (.bool true)
theorem count_check {w : World} (hG : Glob w) {n p : Nat} (odd : Bool) (hn : 1 ≤ n) (hn4 : n ≤ 4) (hp : p < 20) :
    Calls Tryd.prog 7 #[.string (mk (txtC p n odd))] w fun e w' => CountIs w' n (2 ^ n) odd e ∧ Keeps [] w w' := by
  obtain ⟨ls, hok, hL, hI, hc⟩ := read_C odd hn hn4 hp
  refine (check_any hG (mk (txtC p n odd))).mono ?_
  rintro e w' ⟨h, hk⟩
  refine ⟨?_, hk⟩
  unfold CheckIs at h
  rw [bl_mk, hok] at h
  obtain ⟨v, rfl, hv⟩ := h
  rcases hv with ⟨_, hs⟩ | ⟨k, s0, is, S, V, bk, ht, _, rfl, hm, hls, _⟩
  · exact absurd hc.bad_at (hs _)
  obtain ⟨h0, hkT, hgo, hsay⟩ := hc.told ht
  have hP : 1 ≤ 2 ^ n := Nat.one_le_two_pow
  have hk1 : k + 1 = 2 ^ n := by omega
  rw [hL] at hm
  rw [hI, hk1] at hls
  refine ⟨S, V, bk, by rw [hL, hk1], fun i hi => ?_, fun j hj => ?_, fun j hj => ?_, ?_⟩
  · have := (hm i hi).1
    rw [h0, dig_zero n (by omega) i hi] at this
    exact this
  · exact ((hls j hj).2.2 (by omega)).1
  · have h1 := ((hls j (by omega)).2.2 (by omega)).2.1
    have h2 := hgo j (by omega)
    unfold goC at h2
    have h3 := (h1 (if odd then 1 else 0) (by split <;> omega)).1
    rw [h3]
    exact congrArg (fun b => some (Value.bool b)) h2
  · have h1 := ((hls (2 ^ n - 1) (by omega)).2.2 (by omega)).2.1
    have h2 := hsay
    rw [show k = 2 ^ n - 1 by omega] at h2
    unfold sayC at h2
    have h3 := (h1 (if odd then 0 else 1) (by split <;> omega)).1
    rw [h3]
    exact congrArg (fun b => some (Value.bool b)) h2

set_option maxRecDepth 100000 in
set_option maxHeartbeats 2000000 in
theorem counts_walk {w : World} (hG : Glob w) {latches more way : Int} (h1 : FitsI latches) (h2 : FitsI more) (h3 : FitsI way) :
    Calls Tryd.prog 3 #[.int .i64 latches, .int .i64 more, .int .i64 way] w fun e w' => e = .returned (.bool true) ∧ Keeps [] w w' := by
  have p1 := pickF_lt latches (n := 4) (by omega)
  have p2 := pickF_lt more (n := 20) (by omega)
  obtain ⟨n1, hn1⟩ : ∃ n1 : Nat, (n1 : Int) = pickF latches 4 := ⟨(pickF latches 4).toNat, by omega⟩
  obtain ⟨p, hp⟩ : ∃ p : Nat, (p : Int) = pickF more 20 := ⟨(pickF more 20).toNat, by omega⟩
  have hp20 : p < 20 := by omega
  obtain ⟨n, hn⟩ : ∃ n : Nat, n = n1 + 1 := ⟨_, rfl⟩
  have hn4 : 1 ≤ n ∧ n ≤ 4 := by omega
  have hne : (1 : Int) + (n1 : Int) = (n : Int) := by omega
  obtain ⟨odd, hodd⟩ : ∃ odd, odd = oddW way := ⟨_, rfl⟩
  have hbt : (odd = true ∧ (way.tmod 2 == 0) = false) ∨ (odd = false ∧ (way.tmod 2 == 0) = true) := by
    rw [hodd]
    unfold oddW
    cases way.tmod 2 == 0
    · exact Or.inl ⟨rfl, rfl⟩
    · exact Or.inr ⟨rfl, rfl⟩
  obtain ⟨P, hP⟩ : ∃ P : Nat, P = 2 ^ n := ⟨_, rfl⟩
  have hPn : 2 ≤ P ∧ P ≤ 16 := by
    rw [hP]
    exact ⟨Nat.pow_le_pow_right (n := 2) (i := 1) (by omega) hn4.1, Nat.pow_le_pow_right (n := 2) (j := 4) (by omega) hn4.2⟩
  have hsh : wrap64 (2 ^ n) = (P : Int) := by rw [wrap_pow n (by omega), hP]
  have hpow : (2 : Int) ^ n = (P : Int) := by rw [hP, Int.natCast_pow]; rfl
  have hsh2 : IntKind.i64.wrap ((2 : Int) ^ n) = (P : Int) := by rw [hpow]; exact IntWalk.i64_in _ ⟨by omega, by omega⟩
  clear hpow
  have HC1 := hid_intro (pickF_any (w := w) h1 (n := 4) (by omega) (by omega))
  have HCt := hid_intro (counter_any (w := w) (n := n) hn4.2 h2 h3 hp)
  rw [← hn1] at HC1
  rw [← hodd] at HCt
  have HChk : Hid (∀ w : World, Glob w → Calls Tryd.prog 7 #[.string (mk (txtC p n odd))] w fun e w' => CountIs w' n P odd e ∧ Keeps [] w w') := fun w hG => by rw [hP]; exact count_check hG odd hn4.1 hn4.2 hp20
  clear hn1 hp p1 p2 hn hodd hP
  go_enter Tryd.func3, Tryd.ntmps3
  go_wp2_with fail
  refine Calls.mono HC1.out ?_
  rintro e w1 ⟨rfl, rfl⟩
  clear HC1
  go_wp2_with fail
  clear hne
  refine Calls.mono HCt.out ?_
  rintro e w1 ⟨rfl, hk1⟩
  clear HCt
  go_wp2_with fail
  refine Calls.mono (HChk.out w1 (hG.keeps hk1)) ?_
  rintro e w2 ⟨⟨S, V, bk, rfl, hS, hV, hgo, hsay⟩, hk2⟩
  clear HChk
  obtain ⟨w3, hw3⟩ : ∃ w3, w3 = w2.alloc (.cells #[.bool false, .int .i64 0, .slice (some ⟨S, 0, none⟩) n n, .slice (some ⟨V, 0, none⟩) P P] 26) := ⟨_, rfl⟩
  obtain ⟨D, hD⟩ : ∃ D, D = w2.heap.size := ⟨_, rfl⟩
  have hk3 : Keeps [] w2 w3 := by rw [hw3]; exact (Keeps.refl _ _).alloc _
  have d0 : w3.cell? ⟨D, 0, none⟩ = some (.bool false) := by rw [hw3, hD, World.cell?_alloc_at _ _ _ _ rfl]; rfl
  have d1 : w3.cell? ⟨D, 1, none⟩ = some (.int .i64 0) := by rw [hw3, hD, World.cell?_alloc_at _ _ _ _ rfl]; rfl
  have d2 : w3.cell? ⟨D, 2, none⟩ = some (.slice (some ⟨S, 0, none⟩) n n) := by rw [hw3, hD, World.cell?_alloc_at _ _ _ _ rfl]; rfl
  have d3 : w3.cell? ⟨D, 3, none⟩ = some (.slice (some ⟨V, 0, none⟩) P P) := by rw [hw3, hD, World.cell?_alloc_at _ _ _ _ rfl]; rfl
  have HS := hid_intro (fun i hi => hk3.cell (hS i hi) (by simp))
  have HV := hid_intro (fun i hi => hk3.cell (hV i hi) (by simp))
  have HGo := hid_intro (fun i hi => hk3.cell (hgo i hi) (by simp))
  have HSay := hid_intro (hk3.cell hsay (by simp))
  have hkw : Keeps [] w w3 := (hk1.trans hk2).trans hk3
  clear hS hV hgo hsay
  have D0 := hid_intro d0
  have D1 := hid_intro d1
  go_wp2_with fail
  rw [← hw3, ← hD]
  clear hw3 hD
  have s0 : w3.drew.cell? ⟨D, 0, none⟩ = some (.bool false) ∧ w3.drew.cell? ⟨D, 1, none⟩ = some (.int .i64 0) ∧ w3.drew.cell? ⟨D, 2, none⟩ = some (.slice (some ⟨S, 0, none⟩) n n) ∧ w3.drew.cell? ⟨D, 3, none⟩ = some (.slice (some ⟨V, 0, none⟩) P P) := ⟨d0, d1, d2, d3⟩
  go_region_held3 (fun w' => w'.cell? ⟨D, 0, none⟩ = some (.bool false) ∧ w'.cell? ⟨D, 1, none⟩ = some (.int .i64 0) ∧ w'.cell? ⟨D, 2, none⟩ = some (.slice (some ⟨S, 0, none⟩) n n) ∧ w'.cell? ⟨D, 3, none⟩ = some (.slice (some ⟨V, 0, none⟩) P P))
    (first | exact s0 | assumption)
    (fail)
  clear s0 d0 d1
  obtain ⟨w4, hw4⟩ : ∃ w4, w4 = w3.drew := ⟨_, rfl⟩
  have hk4 : Keeps [] w3 w4 := by rw [hw4]; exact (Keeps.refl _ _).drew
  have hkw4 : Keeps [] w w4 := hkw.trans hk4
  have HS4 := hid_intro (fun i hi => hk4.cell (HS.out i hi) (by simp))
  have HV4 := hid_intro (fun i hi => hk4.cell (HV.out i hi) (by simp))
  have HGo4 := hid_intro (fun i hi => hk4.cell (HGo.out i hi) (by simp))
  have HSay4 := hid_intro (hk4.cell HSay.out (by simp))
  have e2 := hk4.cell d2 (by simp)
  have E3 := hid_intro (hk4.cell d3 (by simp))
  go_wp2_with fail
  rw [← hw4]
  clear hw4 d2 d3 HS HV HGo HSay
  go_loopw [11] (fun x wq => ∃ i : Nat, i ≤ n ∧ x = .int .i64 i ∧ wq = w4) (fun x _ => n - (intOf x).toNat)
  case atStart => exact ⟨0, by omega, rfl, rfl⟩
  case round =>
    obtain ⟨i, hi, rfl, hwq⟩ := hrel
    have hwq := hwq.symm
    subst hwq
    by_cases hin : i < n
    · have hi0 : (0 : Int) ≤ (i : Int) := by omega
      have hi1 : (i : Int) < (n : Int) := by omega
      have hc := HS4.out i hin
      go_wp2_with fail
      exact ⟨⟨i + 1, by omega, by go_num, trivial⟩, by simp [intOf]; omega⟩
    · obtain rfl : i = n := by omega
      clear e2
      rcases hbt with ⟨rfl, hb⟩ | ⟨rfl, hb⟩
      · have e2 : w4.cell? ⟨D, 3, none⟩ = some (.slice (some ⟨V, 0, none⟩) P P) := E3.out
        go_wp2_with fail
        go_loopw [14] (fun x wq => ∃ j : Nat, j ≤ P ∧ x = .int .i64 j ∧ wq = w4) (fun x _ => P - (intOf x).toNat)
        case atStart => exact ⟨0, by omega, rfl, rfl⟩
        case round =>
          obtain ⟨j, hj, rfl, hwq⟩ := hrel
          have hwq := hwq.symm
          subst hwq
          by_cases hjP : j < P
          · have hj0 : (0 : Int) ≤ (j : Int) := by omega
            have hj1 : (j : Int) < (P : Int) := by omega
            have hv := HV4.out j hjP
            by_cases hlast : j + 1 < P
            · have hg : w4.cell? ⟨bk j, 1, none⟩ = some (.bool true) := HGo4.out j hlast
              have hl1 : (j : Int) < (P : Int) - 1 := by omega
              go_wp2_with fail
              exact ⟨⟨j + 1, by omega, by go_num, trivial⟩, by simp [intOf]; omega⟩
            · have hl1 : ¬ (j : Int) < (P : Int) - 1 := by omega
              have hl2 : (P : Int) - 1 ≤ (j : Int) := by omega
              go_wp2_with fail
              exact ⟨⟨j + 1, by omega, by go_num, trivial⟩, by simp [intOf]; omega⟩
          · obtain rfl : j = P := by omega
            obtain ⟨q, hq⟩ : ∃ q, j = q + 1 := ⟨j - 1, by omega⟩
            have hv := HV4.out q (by omega)
            have hs : w4.cell? ⟨bk q, 0, none⟩ = some (.bool true) := by
              have := HSay4.out
              rw [show j - 1 = q by omega] at this
              exact this
            have hjq : (j : Int) - 1 = (q : Int) := by omega
            have hq0 : (0 : Int) ≤ (q : Int) := by omega
            have hq1 : (q : Int) < (j : Int) := by omega
            clear hq
            go_wp2_with fail
            go_ret
            exact ⟨rfl, hkw4⟩
      · have e2 : w4.cell? ⟨D, 3, none⟩ = some (.slice (some ⟨V, 0, none⟩) P P) := E3.out
        go_wp2_with fail
        go_loopw [14] (fun x wq => ∃ j : Nat, j ≤ P ∧ x = .int .i64 j ∧ wq = w4) (fun x _ => P - (intOf x).toNat)
        case atStart => exact ⟨0, by omega, rfl, rfl⟩
        case round =>
          obtain ⟨j, hj, rfl, hwq⟩ := hrel
          have hwq := hwq.symm
          subst hwq
          by_cases hjP : j < P
          · have hj0 : (0 : Int) ≤ (j : Int) := by omega
            have hj1 : (j : Int) < (P : Int) := by omega
            have hv := HV4.out j hjP
            by_cases hlast : j + 1 < P
            · have hg : w4.cell? ⟨bk j, 0, none⟩ = some (.bool true) := HGo4.out j hlast
              have hl1 : (j : Int) < (P : Int) - 1 := by omega
              go_wp2_with fail
              exact ⟨⟨j + 1, by omega, by go_num, trivial⟩, by simp [intOf]; omega⟩
            · have hl1 : ¬ (j : Int) < (P : Int) - 1 := by omega
              have hl2 : (P : Int) - 1 ≤ (j : Int) := by omega
              go_wp2_with fail
              exact ⟨⟨j + 1, by omega, by go_num, trivial⟩, by simp [intOf]; omega⟩
          · obtain rfl : j = P := by omega
            obtain ⟨q, hq⟩ : ∃ q, j = q + 1 := ⟨j - 1, by omega⟩
            have hv := HV4.out q (by omega)
            have hs : w4.cell? ⟨bk q, 1, none⟩ = some (.bool true) := by
              have := HSay4.out
              rw [show j - 1 = q by omega] at this
              exact this
            have hjq : (j : Int) - 1 = (q : Int) := by omega
            have hq0 : (0 : Int) ≤ (q : Int) := by omega
            have hq1 : (q : Int) < (j : Int) := by omega
            clear hq
            go_wp2_with fail
            go_ret
            exact ⟨rfl, hkw4⟩

end Go.Proofs.YtmgjegokkbghlabDoor
