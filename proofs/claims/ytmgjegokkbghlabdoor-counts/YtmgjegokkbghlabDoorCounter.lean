/- counter, walked. -/
import Derived.Test.YtmgjegokkbghlabDoorNameT
import Derived.Test.YtmgjegokkbghlabDoorTextC
import Derived.Test.YtmgjegokkbghlabDoorExplo
namespace Go.Proofs.YtmgjegokkbghlabDoor
open Go.RowKit Go.Maps Circ Gram Runs
set_option linter.unusedVariables false

theorem infoSt : (Tryd.prog.info? 9).map (fun i => (i.zero, i.size, i.bytes)) = some (some (.string ⟨#[]⟩), 1, 16) := by kernel_rfl
def strC (l : List (List UInt8)) : List Value := l.map fun x => .string (mk x)
theorem strC_app (a b : List (List UInt8)) : strC (a ++ b) = strC a ++ strC b := by simp [strC]
theorem strC_len (a : List (List UInt8)) : (strC a).length = a.length := by simp [strC]
theorem lnsC_len (p : Nat) : ∀ k, (lnsC p k).length = 2 + 2 * k
  | 0 => rfl
  | k + 1 => by simp [lnsC, lnsC_len p k]; omega
theorem fullC_len (p n : Nat) : (fullC p n).length = 2 * n + 4 := by simp [fullC, lnsC_len]; omega
theorem carC_len (p : Nat) : ∀ k, (carC p k).length = 2 + 5 * k
  | 0 => rfl
  | k + 1 => by simp [carC, carC_len p k, nmT]; omega
theorem allC_len (p : Nat) : ∀ k, (allC p k).length = 2 + 3 * k
  | 0 => rfl
  | k + 1 => by simp [allC, allC_len p k, nmT]; omega
theorem lnsC_each (p : Nat) : ∀ k, ∀ x ∈ lnsC p k, x.length ≤ 30 + 5 * k
  | 0, x, hx => by simp [lnsC] at hx; rcases hx with rfl | rfl <;> simp [nmT]
  | k + 1, x, hx => by
    simp only [lnsC, List.mem_append, List.mem_cons, List.not_mem_nil, or_false] at hx
    rcases hx with hx | rfl | rfl
    · have := lnsC_each p k x hx; omega
    · simp [nmT]; omega
    · simp [nmT, carC_len]; omega
theorem fullC_each (p n : Nat) : ∀ x ∈ fullC p n, x.length ≤ 30 + 5 * n := fun x hx => by
  unfold fullC at hx
  simp only [List.mem_append, List.mem_cons, List.not_mem_nil, or_false] at hx
  rcases hx with hx | rfl | rfl
  · exact lnsC_each p n x hx
  · simp [allC_len]; omega
  · simp
theorem glue_snoc : ∀ (l : List (List UInt8)) (x : List UInt8), glue (l ++ [x]) = glue l ++ x ++ [10]
  | [], x => by simp [glue]
  | y :: r, x => by simp [glue, glue_snoc r x]
theorem glue_len {b : Nat} : ∀ (l : List (List UInt8)), (∀ x ∈ l, x.length ≤ b) → (glue l).length ≤ l.length * (b + 1)
  | [], _ => by simp [glue]
  | y :: r, h => by
    have h1 := h y (by simp)
    have h2 := glue_len r (fun x hx => h x (by simp [hx]))
    have h3 : (y :: r).length * (b + 1) = r.length * (b + 1) + (b + 1) := by rw [List.length_cons, Nat.succ_mul]
    simp only [glue, List.length_append, List.length_cons, List.length_nil] at h3 ⊢
    omega
theorem car_eq (p k : Nat) : mk (carC p k) ++ (⟨#[32, 38, 32]⟩ : ByteArray) ++ mk (nmT 108 p k) = mk (carC p (k + 1)) := by
  have h1 : mk (carC p k) ++ mk [32, 38, 32] = mk (carC p k ++ [32, 38, 32]) := mk_app _ _
  have h2 : mk (carC p k) ++ (⟨#[32, 38, 32]⟩ : ByteArray) = mk (carC p k ++ [32, 38, 32]) := h1
  rw [h2, mk_app]
  rfl
theorem all_eq (p k : Nat) : mk (allC p k) ++ (⟨#[38]⟩ : ByteArray) ++ mk (nmT 108 p k) = mk (allC p (k + 1)) := by
  have h1 : mk (allC p k) ++ mk [38] = mk (allC p k ++ [38]) := mk_app _ _
  have h2 : mk (allC p k) ++ (⟨#[38]⟩ : ByteArray) = mk (allC p k ++ [38]) := h1
  rw [h2, mk_app]
  rfl
theorem snoc_eq {a b x : List UInt8} (h : b = a ++ x ++ [10]) : mk a ++ mk x ++ (⟨#[10]⟩ : ByteArray) = mk b := by
  have h1 : mk (a ++ x) ++ mk [10] = mk (a ++ x ++ [10]) := mk_app _ _
  have h2 : mk (a ++ x) ++ (⟨#[10]⟩ : ByteArray) = mk (a ++ x ++ [10]) := h1
  rw [mk_app, h2, h]
/-- the lines in their order -/
def ordC (p n : Nat) (odd : Bool) : List (List UInt8) := if odd then (fullC p n).reverse else fullC p n
def oddW (way : Int) : Bool := !(way.tmod 2 == 0)

set_option maxRecDepth 100000 in
set_option maxHeartbeats 1000000 in
theorem counter_any {w : World} {n : Nat} {more way : Int} (hn : n ≤ 4) (h2 : FitsI more) (h3 : FitsI way) {p : Nat} (hp : (p : Int) = pickF more 20) :
    Calls Tryd.prog 8 #[.int .i64 (n : Int), .int .i64 more, .int .i64 way] w fun e w' => e = .returned (.string (mk (txtC p n (oddW way)))) ∧ Keeps [] w w' := by
  obtain ⟨i0, hi0, hz0, hz1, hz2⟩ := info_parts infoSt
  have hml : 2000000 < maxLen := by decide
  have HN : Hid (∀ (w : World) (c : UInt8) (k : Nat), k < 5 → Calls Tryd.prog 9 #[.string (mk [c]), .int .i64 (k : Int), .int .i64 more] w fun e w' => e = .returned (.string (mk (nmT c p k))) ∧ Keeps [] w w') := fun w c k hk => name_any h2 hk hp
  have zg : ByteArray.size (mk (nmT 103 p 0)) = 2 := rfl
  have zq : ByteArray.size (mk (nmT 113 p 0)) = 2 := rfl
  clear hp
  go_enter Tryd.func8, Tryd.ntmps8
  go_wp2_with fail
  refine Calls.mono (HN.out _ 103 0 (by omega)) ?_
  rintro e w1 ⟨rfl, hk1⟩
  go_wp2_with fail
  refine Calls.mono (HN.out _ 113 0 (by omega)) ?_
  rintro e w2 ⟨rfl, hk2⟩
  have hk02 : Keeps [] w w2 := hk1.trans hk2
  have hsz2 := hk02.size
  have HRow := hid_intro (World.ownsRow_nil w2 w.heap.size 9 1)
  go_wp2_with (first
    | (at_builtin; refine wpList_append_own_at _ rfl _ _ 34 rfl w.heap.size 9 i0 (.string ⟨#[]⟩) 1 16 Tryd.underlying34 hi0 hz0 hz1 hz2 rfl (by decide) _ 0 [] rfl (HRow.out.alloc _) ⟨w2.heap.size, 0, none⟩ 2 2 [.string (⟨#[105, 110, 32]⟩ ++ mk (nmT 103 p 0)), .string (⟨#[105, 110, 32]⟩ ++ mk (nmT 113 p 0))] rfl rfl (cells_new _ _ _) (by simp [Value.oneCell']) (by omega) (by omega) (by simp; omega) ?_; intro v' w3 hown' hgrow hnil hloc; obtain ⟨g', cap', rfl⟩ := own_slice hown'; have HOW := hid_intro hown'; have HGR := hid_intro hgrow; clear hown' hgrow hloc hnil)
    | fail)
  have hk3 := push_old HRow.out HGR.out (Nat.le_refl _) hk02
  have hrow3 : w3.ownsRow w.heap.size 9 1 (.slice (some ⟨g', 0, none⟩) 2 cap') 2 (strC (lnsC p 0)) := by
    have := HOW.out
    rw [show ([] : List Value) ++ [.string (⟨#[105, 110, 32]⟩ ++ mk (nmT 103 p 0)), .string (⟨#[105, 110, 32]⟩ ++ mk (nmT 113 p 0))] = strC (lnsC p 0) by
      simp only [List.nil_append, strC, lnsC, List.map_cons, List.map_nil]
      rw [← mk_app, ← mk_app]; rfl] at this
    exact this
  have HR3 := hid_intro hrow3
  clear hrow3 HOW HGR HRow hk1 hk2 hk02 hsz2
  refine Calls.mono (HN.out _ 103 0 (by omega)) ?_
  rintro e w4 ⟨rfl, hk4⟩
  go_wp2_with fail
  refine Calls.mono (HN.out _ 113 0 (by omega)) ?_
  rintro e w5 ⟨rfl, hk5⟩
  have HR5 := hid_intro (row_keeps (row_keeps HR3.out hk4 (by simp)) hk5 (by simp))
  have hkw5 : Keeps [] w w5 := (hk3.trans hk4).trans hk5
  clear HR3
  go_wp2_with fail
  go_loopw [7, 8, 9, 10] (fun y7 y8 y9 y10 wr => ∃ (k m : Nat) (a : Option Addr) (c : Nat), k ≤ n ∧ m = 2 + 2 * k ∧ y7 = .slice a m c ∧ y8 = .string (mk (carC p k)) ∧ y9 = .string (mk (allC p k)) ∧ y10 = .int .i64 k ∧ wr.ownsRow w.heap.size 9 1 (.slice a m c) m (strC (lnsC p k)) ∧ Keeps [] w wr) (fun _ _ _ y10 _ => n - (intOf y10).toNat)
  case atStart => exact ⟨0, 2, _, _, by omega, rfl, rfl, rfl, rfl, rfl, HR5.out, hkw5⟩
  case round =>
    clear HR5 hkw5 hk3 hk4 hk5
    obtain ⟨k, m, a, c, hk, hm, rfl, rfl, rfl, rfl, hrow, hkw⟩ := hrel
    have HM := hid_intro hm
    have HRow := hid_intro hrow
    have hm10 : m ≤ 10 := by omega
    have hbw := hkw.size
    obtain ⟨Cs, hCs⟩ : ∃ Cs, ByteArray.size (mk (carC p k)) = Cs := ⟨_, rfl⟩
    obtain ⟨As, hAs⟩ : ∃ As, ByteArray.size (mk (allC p k)) = As := ⟨_, rfl⟩
    have hCA : Cs ≤ 100 ∧ As ≤ 100 := by
      have h1 := carC_len p k
      have h2 := allC_len p k
      rw [mk_size] at hCs hAs
      omega
    clear hm hrow
    by_cases hkn : k < n
    · have hj0 : (0 : Int) ≤ (k : Int) := by omega
      have hj1 : (k : Int) < (n : Int) := by omega
      have zk : ByteArray.size (mk (nmT 108 p k)) = 2 := rfl
      have o1 : ¬ 9223372036854775807 < 16 + Cs := by omega
      have o2 : ¬ 9223372036854775807 < 16 + Cs + 1 := by omega
      have o3 : ¬ 9223372036854775807 < Cs + 3 := by omega
      have o4 : ¬ 9223372036854775807 < Cs + 3 + 2 := by omega
      have o5 : ¬ 9223372036854775807 < As + 1 := by omega
      have o6 : ¬ 9223372036854775807 < As + 1 + 2 := by omega
      go_wp2_with fail
      refine Calls.mono (HN.out _ 108 k (by omega)) ?_
      rintro e w6 ⟨rfl, hk6⟩
      have HR6 := hid_intro (row_keeps HRow.out hk6 (by simp))
      have hsz6 := hk6.size
      go_wp2_with (first
        | (at_builtin; refine wpList_append_own_at _ rfl _ _ 34 rfl w.heap.size 9 i0 (.string ⟨#[]⟩) 1 16 Tryd.underlying34 hi0 hz0 hz1 hz2 rfl (by decide) _ m (strC (lnsC p k)) rfl (HR6.out.alloc _) ⟨w6.heap.size, 0, none⟩ 2 2 [_, _] rfl rfl (cells_new _ _ _) (by simp [Value.oneCell']) (by omega) (by omega) (by simp; omega) ?_; intro v' w7 hown' hgrow hnil hloc; obtain ⟨g', cap', rfl⟩ := own_slice hown'; have HOW := hid_intro hown'; have HGR := hid_intro hgrow; clear hown' hgrow hloc hnil)
        | fail)
      have hk7 := push_old HR6.out HGR.out (Nat.le_refl _) (hkw.trans hk6)
      have hrow7 : w7.ownsRow w.heap.size 9 1 (.slice (some ⟨g', 0, none⟩) (m + 2) cap') (m + 2) (strC (lnsC p (k + 1))) := by
        have h := HOW.out
        have e : strC (lnsC p (k + 1)) = strC (lnsC p k) ++ [.string (mk ([108, 97, 116, 99, 104, 32] ++ nmT 108 p k ++ [32, 48])), .string (mk ([110, 101, 120, 116, 32] ++ nmT 108 p k ++ [32, 61, 32] ++ nmT 108 p k ++ [32, 94, 32, 40] ++ carC p k ++ [41]))] := by
          rw [lnsC, strC_app]; rfl
        rw [e]
        simp only [← mk_app]
        exact h
      exact ⟨⟨k + 1, _, _, _, by omega, by have := HM.out; omega, rfl, congrArg Value.string (car_eq p k), congrArg Value.string (all_eq p k), by go_num, hrow7, hk7⟩, by simp [intOf]; omega⟩
    · obtain rfl : k = n := by omega
      have o1 : ¬ 9223372036854775807 < 6 + As := by omega
      go_wp2_with (first
        | (at_builtin; refine wpList_append_own_at _ rfl _ _ 34 rfl w.heap.size 9 i0 (.string ⟨#[]⟩) 1 16 Tryd.underlying34 hi0 hz0 hz1 hz2 rfl (by decide) _ m (strC (lnsC p k)) rfl (HRow.out.alloc _) ⟨wr.heap.size, 0, none⟩ 2 2 [_, _] rfl rfl (cells_new _ _ _) (by simp [Value.oneCell']) (by omega) (by omega) (by simp; omega) ?_; intro v' w7 hown' hgrow hnil hloc; obtain ⟨g', cap', rfl⟩ := own_slice hown'; have HOW := hid_intro hown'; have HGR := hid_intro hgrow; clear hown' hgrow hloc hnil)
        | fail)
      have hk7 := push_old HRow.out HGR.out (Nat.le_refl _) hkw
      have hrow7 : w7.ownsRow w.heap.size 9 1 (.slice (some ⟨g', 0, none⟩) (m + 2) cap') (m + 2) (strC (fullC p k)) := by
        have h := HOW.out
        have e : strC (fullC p k) = strC (lnsC p k) ++ [.string (mk ([98, 97, 100, 32, 61, 32] ++ allC p k)), .string (mk [])] := by
          rw [fullC, strC_app]; rfl
        rw [e]
        simp only [← mk_app]
        exact h
      obtain ⟨odd, hodd⟩ : ∃ odd, odd = oddW way := ⟨_, rfl⟩
      have hlen : (ordC p k odd).length = m + 2 := by
        have hm := HM.out
        unfold ordC
        split
        · rw [List.length_reverse, fullC_len]; omega
        · rw [fullC_len]; omega
      have heach : ∀ x ∈ ordC p k odd, x.length ≤ 50 := fun x hx => by
        have : x ∈ fullC p k := by
          unfold ordC at hx
          split at hx
          · exact List.mem_reverse.1 hx
          · exact hx
        have := fullC_each p k x this
        omega
      have HR7 := hid_intro hrow7
      have HLen := hid_intro hlen
      have HEach := hid_intro heach
      have HOdd := hid_intro hodd
      have hbt : (odd = true ∧ (way.tmod 2 == 0) = false) ∨ (odd = false ∧ (way.tmod 2 == 0) = true) := by
        rw [hodd]
        unfold oddW
        cases way.tmod 2 == 0
        · exact Or.inl ⟨rfl, rfl⟩
        · exact Or.inr ⟨rfl, rfl⟩
      clear hrow7 hlen heach HOW HGR HRow o1 hodd
      go_loopw [12, 13] (fun y12 y13 wq => ∃ i : Nat, i ≤ m + 2 ∧ y12 = .string (mk (glue ((ordC p k odd).take i))) ∧ y13 = .int .i64 i ∧ wq = w7) (fun _ y13 _ => m + 2 - (intOf y13).toNat)
      case atStart => exact ⟨0, by omega, rfl, rfl, rfl⟩
      case round =>
        obtain ⟨i, hi, rfl, rfl, hwq⟩ := hrel
        have hwq := hwq.symm
        subst hwq
        by_cases hil : i < m + 2
        · have hi0' : (0 : Int) ≤ (i : Int) := by omega
          have hi1 : (i : Int) < (m : Int) + 2 := by omega
          have hio : i < (ordC p k odd).length := by rw [HLen.out]; exact hil
          obtain ⟨S, hS⟩ : ∃ S, ByteArray.size (mk (glue ((ordC p k odd).take i))) = S := ⟨_, rfl⟩
          have hSb : S ≤ 1000 := by
            have h1 := glue_len (b := 50) ((ordC p k odd).take i) (fun x hx => HEach.out x (List.mem_of_mem_take hx))
            rw [mk_size] at hS
            have h2 : ((ordC p k odd).take i).length ≤ 12 := by rw [List.length_take]; omega
            have h3 : ((ordC p k odd).take i).length * (50 + 1) ≤ 12 * 51 := Nat.mul_le_mul_right _ h2
            omega
          obtain ⟨x, hx⟩ : ∃ x, x = (ordC p k odd)[i] := ⟨_, rfl⟩
          have hxl : x.length ≤ 50 := HEach.out x (by rw [hx]; exact List.getElem_mem hio)
          obtain ⟨E, hE⟩ : ∃ E, ByteArray.size (mk x) = E := ⟨_, rfl⟩
          have hEb : E ≤ 50 := by rw [mk_size] at hE; omega
          have hnext : glue ((ordC p k odd).take (i + 1)) = glue ((ordC p k odd).take i) ++ x ++ [10] := by
            rw [List.take_succ_eq_append_getElem hio, glue_snoc, hx]
          have HNx := hid_intro hnext
          have o1 : ¬ 9223372036854775807 < S + E := by omega
          have o2 : ¬ 9223372036854775807 < S + E + 1 := by omega
          have hcl : ∀ q (hq : q < m + 2), w7.cell? ⟨g', q, none⟩ = (strC (fullC p k))[q]? := fun q hq => HR7.out.cellAt q (by omega)
          rcases hbt with ⟨rfl, hb⟩ | ⟨rfl, hb⟩
          · obtain ⟨q, hq⟩ : ∃ q, q + i = m + 1 := ⟨m + 1 - i, by omega⟩
            have hc : w7.cell? ⟨g', q, none⟩ = some (.string (mk x)) := by
              rw [hcl q (by omega), strC, List.getElem?_map, hx]
              have hl := HLen.out
              have h1 : (ordC p k true)[i] = (fullC p k)[q]'(by simp [ordC] at hl; omega) := by
                simp only [ordC, if_true, List.getElem_reverse]
                congr 1
                simp [ordC] at hl
                omega
              rw [h1, List.getElem?_eq_getElem]
              rfl
            have hqi : (m : Int) + 2 - 1 - (i : Int) = (q : Int) := by omega
            have hqi' : (m : Int) + 1 - (i : Int) = (q : Int) := by omega
            have hq0 : (0 : Int) ≤ (q : Int) := by omega
            have hq1 : (q : Int) < (m : Int) + 2 := by omega
            clear hx hcl hnext
            go_wp2_with fail
            exact ⟨⟨i + 1, by omega, congrArg Value.string (snoc_eq HNx.out), by go_num, trivial⟩, by simp [intOf]; omega⟩
          · have hc : w7.cell? ⟨g', i, none⟩ = some (.string (mk x)) := by
              rw [hcl i (by omega), strC, List.getElem?_map, hx]
              have hl := HLen.out
              have h1 : (ordC p k false)[i] = (fullC p k)[i]'(by simp [ordC] at hl; omega) := by
                simp only [ordC, Bool.false_eq_true, if_false]
              rw [h1, List.getElem?_eq_getElem]
              rfl
            clear hx hcl hnext
            go_wp2_with fail
            exact ⟨⟨i + 1, by omega, congrArg Value.string (snoc_eq HNx.out), by go_num, trivial⟩, by simp [intOf]; omega⟩
        · obtain rfl : i = m + 2 := by omega
          have hall : (ordC p k odd).take (m + 2) = ordC p k odd := List.take_of_length_le (by rw [HLen.out]; omega)
          rw [hall]
          have hfin : glue (ordC p k odd) = txtC p k (oddW way) := by rw [← HOdd.out]; rfl
          have HFin := hid_intro hfin
          clear hall hfin
          go_wp2_with fail
          go_ret
          exact ⟨congrArg (fun x => Ending.returned (.string (mk x))) HFin.out, hk7⟩

end Go.Proofs.YtmgjegokkbghlabDoor
