/- Lists of numbers that are lent: lent, sameInts, mark, keepInts, unhurt. The other calls that make a function: Restrict, Exists, Swap. Questions: asks, Least and Size; which calls make a function. -/
import Derived.Test.YtmgjegokkbghlaaGreatLawA
import Derived.Test.YtmgjegokkbghlaaGreatRefForm
import Derived.Test.YtmgjegokkbghlaaGreatPairF
namespace Go.Proofs.YtmgjegokkbghlaaGreat
open Go.RowKit Go.Maps Bdd
set_option linter.unusedVariables false
attribute [local go_sem ↓] Go.wp_at_zero Go.wp_at_succ

/-- numbers, as a list has them -/
def rowI (L : Nat) (f : Nat → Int) : List Value := (List.range L).map fun i => .int .i64 (f i)
theorem rowI_len (L : Nat) (f : Nat → Int) : (rowI L f).length = L := by simp [rowI]
theorem rowI_get {L : Nat} (f : Nat → Int) {i : Nat} (hi : i < L) : (rowI L f)[i]? = some (.int .i64 (f i)) := by simp [rowI, hi]
theorem rowI_set {L : Nat} {f f' : Nat → Int} {j : Nat} {x : Int} (hx : f' j = x) (hf : ∀ i, i ≠ j → f' i = f i) : (rowI L f).set j (.int .i64 x) = rowI L f' := by
  apply List.ext_getElem?
  intro i
  rw [List.getElem?_set]
  by_cases e : j = i
  · subst e
    by_cases hj : j < L
    · rw [if_pos rfl, if_pos (by rw [rowI_len]; exact hj), rowI_get f' hj, hx]
    · rw [if_pos rfl, if_neg (by rw [rowI_len]; exact hj), List.getElem?_eq_none (by rw [rowI_len]; omega)]
  · rw [if_neg e]
    by_cases hi : i < L
    · rw [rowI_get f hi, rowI_get f' hi, hf i (fun e' => e e'.symm)]
    · rw [List.getElem?_eq_none (by rw [rowI_len]; omega), List.getElem?_eq_none (by rw [rowI_len]; omega)]
theorem rowI_congr {L : Nat} {f g : Nat → Int} (h : ∀ i, i < L → f i = g i) : rowI L f = rowI L g := by
  unfold rowI
  exact List.map_congr_left (fun i hi => by rw [h i (by simpa using hi)])

/-- what is lent -/
def lentI (n : Nat) (f : Nat → Int) (i : Nat) : Int := if i < n then f i else -77
theorem make_ints {L : Nat} (hL : L ≤ 35184372088832) : ∀ w : World, (Instr.makeSlice 31 (.int .i64 (L : Int)) (.int .i64 (L : Int))).run Tryz.prog w = .ok (.slice (some ⟨w.heap.size, 0, none⟩) L L) (w.alloc (.cells (fillV (.int .i64 0) L) 3)) := by
  obtain ⟨i, hi, hz0, hz1, hz2⟩ := info_parts info3
  intro w
  have := run_make (P := Tryz.prog) w 31 3 i (.int .i64 0) Tryz.underlying31 hi hz0 .i64 .i64 (L : Int) (L : Int) (by omega) (by omega) (by rw [hz2]; omega) (by omega)
  rw [hz1, Int.toNat_natCast, made_fill _ rfl] at this
  exact this

set_option maxRecDepth 100000 in
set_option maxHeartbeats 1000000 in
theorem lent_any {w : World} {a : Option Addr} {n cap : Nat} {f : Nat → Int} (hn : n ≤ 17592186043904) (ha : IntsAt w a n f) :
    Calls Tryz.prog 28 #[.slice a n cap] w fun e w' => ∃ g, e = .returned (.slice (some ⟨g, 0, none⟩) (n + 8) (n + 8)) ∧ w'.ownsRow w.heap.size 3 1 (.slice (some ⟨g, 0, none⟩) (n + 8) (n + 8)) (n + 8) (rowI (n + 8) (lentI n f)) ∧ Keeps [] w w' := by
  have HMB := make_ints (L := n + 8) (by omega)
  have e8 : ((n + 8 : Nat) : Int) = (n : Int) + 8 := by omega
  rw [e8] at HMB
  have HM : Hid (∀ w : World, (Instr.makeSlice 31 (.int .i64 ((n : Int) + 8)) (.int .i64 ((n : Int) + 8))).run Tryz.prog w = .ok (.slice (some ⟨w.heap.size, 0, none⟩) (n + 8) (n + 8)) (w.alloc (.cells (fillV (.int .i64 0) (n + 8)) 3))) := HMB
  have hn1 : (n : Int) ≤ 17592186043904 := by omega
  have HA : Hid (IntsAt w a n f) := ha
  clear ha HMB
  obtain ⟨Y, hY⟩ : ∃ Y, Y = w.alloc (.cells (fillV (.int .i64 0) (n + 8)) 3) := ⟨_, rfl⟩
  have hkY : Keeps [] w Y := by rw [hY]; exact (Keeps.refl _ _).alloc _
  have hoY : Y.ownsRow w.heap.size 3 1 (.slice (some ⟨w.heap.size, 0, none⟩) (n + 8) (n + 8)) (n + 8) (rowI (n + 8) (fun _ => 0)) := by
    rw [hY]
    have := World.ownsRow_lit (e := 3) (size := 1) (base := w.heap.size) w (fillV (.int .i64 0) (n + 8)) (n + 8) (Nat.le_refl _) (by simp only [maxLen]; omega) (by simp [fillV])
    have e : (fillV (.int .i64 0) (n + 8)).toList = rowI (n + 8) (fun _ => 0) := by simp [fillV, rowI]
    rw [e] at this
    exact this
  have hlY : w.heap.size + 1 = Y.heap.size := by rw [hY]; simp
  go_enter Tryz.func28, Tryz.ntmps28
  go_wp2_with (first
    | (at_make; refine wpList_make_at rfl _ _ 31 rfl (.int .i64 ((n : Int) + 8)) (.int .i64 ((n : Int) + 8)) _ rfl rfl (HM.out _) ?_)
    | fail)
  rw [← hY]
  clear hY
  go_loopw [4] (fun x wr => ∃ j : Nat, j ≤ n + 8 ∧ x = .int .i64 j ∧ wr.ownsRow w.heap.size 3 1 (.slice (some ⟨w.heap.size, 0, none⟩) (n + 8) (n + 8)) (n + 8) (rowI (n + 8) (fun i => if i < j then lentI n f i else 0)) ∧ Keeps [w.heap.size] Y wr) (fun x _ => n + 8 - (intOf x).toNat)
  case atStart =>
    refine ⟨0, by omega, rfl, ?_, Keeps.refl _ _⟩
    have e : rowI (n + 8) (fun i => if i < 0 then lentI n f i else 0) = rowI (n + 8) (fun _ => 0) := rowI_congr (fun i _ => by simp)
    rw [e]
    exact hoY
  case round =>
    obtain ⟨j, hj, rfl, hown, hk⟩ := hrel
    by_cases hlt : j < n + 8
    · have hj0 : (0 : Int) ≤ (j : Int) := by omega
      have hj1 : (j : Int) < (n : Int) + 8 := by omega
      have p1 : wr.cell? ⟨w.heap.size, j, none⟩ = some (.int .i64 0) := by
        rw [World.ownsRow.cellAt hown j (by omega), rowI_get _ hlt]; simp
      have p2 := World.ownsRow.frozenAt hown j
      have hs1 := (World.ownsRow.stored hown j (.int .i64 (-77))).1
      by_cases hja : j < n
      · have hja1 : (j : Int) < (n : Int) := by omega
        obtain ⟨vb, vo, ea, hv⟩ : ∃ vb vo, a = some ⟨vb, vo, none⟩ ∧ ∀ i, i < n → w.cell? ⟨vb, vo + i, none⟩ = some (.int .i64 (f i)) := by
          rcases HA.out with h | h
          · omega
          · exact h
        subst ea
        have hvl : vb < w.heap.size := cell_lt (hv j hja)
        have p3 := hk.cell (hkY.cell (hv j hja) (by simp)) (by simp; omega)
        have p4 : (wr.setCell ⟨w.heap.size, j, none⟩ (.int .i64 (-77))).cell? ⟨vb, vo + j, none⟩ = some (.int .i64 (f j)) := by
          rw [World.cell?_setCell_far _ _ _ _ (by simp; omega)]
          exact p3
        have p5 : (wr.setCell ⟨w.heap.size, j, none⟩ (.int .i64 (-77))).cell? ⟨w.heap.size, j, none⟩ = some (.int .i64 (-77)) := World.cell?_setCell_same _ _ _ p1
        have p6 := World.ownsRow.frozenAt hs1 j
        have hs2 := (World.ownsRow.stored hs1 j (.int .i64 (f j))).1
        rw [rowI_set (f' := fun i => if i = j then -77 else if i < j then lentI n f i else 0) (by simp) (fun i hi => by simp [hi]), rowI_set (f' := fun i => if i < j + 1 then lentI n f i else 0) (by simp [lentI, hja]) (fun i hi => by
          by_cases e : i < j
          · simp [e, hi]; omega
          · have : ¬ i < j + 1 := by omega
            simp [e, hi, this])] at hs2
        obtain ⟨fj, hfj⟩ : ∃ fj, fj = f j := ⟨_, rfl⟩
        rw [← hfj] at p3 p4 hs2
        have HS : Hid (((wr.setCell ⟨w.heap.size, j, none⟩ (.int .i64 (-77))).setCell ⟨w.heap.size, j, none⟩ (.int .i64 fj)).ownsRow w.heap.size 3 1 (.slice (some ⟨w.heap.size, 0, none⟩) (n + 8) (n + 8)) (n + 8) (rowI (n + 8) (fun i => if i < j + 1 then lentI n f i else 0))) := hs2
        clear hs1 hs2 hown hfj hv
        go_wp2_with fail
        go_roundw
        case rel =>
          exact ⟨j + 1, by omega, by go_num, HS.out, (hk.setCell _ (Or.inl (by simp)) _).setCell _ (Or.inl (by simp)) _⟩
        case measure => simp [intOf]; omega
      · have hja1 : (n : Int) ≤ (j : Int) := by omega
        rw [rowI_set (f' := fun i => if i < j + 1 then lentI n f i else 0) (by simp [lentI, hja]) (fun i hi => by
          by_cases e : i < j
          · simp [e]; omega
          · have : ¬ i < j + 1 := by omega
            simp [e, this])] at hs1
        have HS : Hid ((wr.setCell ⟨w.heap.size, j, none⟩ (.int .i64 (-77))).ownsRow w.heap.size 3 1 (.slice (some ⟨w.heap.size, 0, none⟩) (n + 8) (n + 8)) (n + 8) (rowI (n + 8) (fun i => if i < j + 1 then lentI n f i else 0))) := hs1
        clear hs1 hown
        go_wp2_with fail
        go_roundw
        case rel =>
          exact ⟨j + 1, by omega, by go_num, HS.out, hk.setCell _ (Or.inl (by simp)) _⟩
        case measure => simp [intOf]; omega
    · have e : j = n + 8 := by omega
      have hj1 : (n : Int) + 8 ≤ (j : Int) := by omega
      have HO : Hid (wr.ownsRow w.heap.size 3 1 (.slice (some ⟨w.heap.size, 0, none⟩) (n + 8) (n + 8)) (n + 8) (rowI (n + 8) (lentI n f))) := by
        have e2 : rowI (n + 8) (fun i => if i < j then lentI n f i else 0) = rowI (n + 8) (lentI n f) := rowI_congr (fun i hi => by rw [if_pos (by omega)])
        rw [← e2]
        exact hown
      clear hown
      go_wp2_with fail
      go_ret
      exact ⟨_, rfl, HO.out, ((hkY.mono (by simp)).trans hk).strike (by simp)⟩

set_option maxRecDepth 100000 in
set_option maxHeartbeats 1000000 in
theorem sameInts_any {w : World} {n g g' cap cap' : Nat} {f : Nat → Int} (hn : n ≤ 4611686018427387904) (h1 : ∀ i, i < n → w.cell? ⟨g, i, none⟩ = some (.int .i64 (f i))) (h2 : ∀ i, i < n → w.cell? ⟨g', i, none⟩ = some (.int .i64 (f i))) :
    Calls Tryz.prog 63 #[.slice (some ⟨g, 0, none⟩) n cap, .slice (some ⟨g', 0, none⟩) n cap'] w fun e w' => e = .returned (.bool true) ∧ Keeps [] w w' := by
  have hn1 : (n : Int) ≤ 4611686018427387904 := by omega
  go_enter Tryz.func63, Tryz.ntmps63
  go_wp2_with fail
  go_loopw [5] (fun x wr => ∃ j : Nat, j ≤ n ∧ x = .int .i64 j ∧ Keeps [] w wr) (fun x _ => n - (intOf x).toNat)
  case atStart => exact ⟨0, by omega, rfl, Keeps.refl _ _⟩
  case round =>
    obtain ⟨j, hj, rfl, hk⟩ := hrel
    by_cases hlt : j < n
    · have hj0 : (0 : Int) ≤ (j : Int) := by omega
      have hj1 : (j : Int) < (n : Int) := by omega
      have p1 := hk.cell (h1 j hlt) (by simp)
      have p2 := hk.cell (h2 j hlt) (by simp)
      obtain ⟨b, hb⟩ : ∃ b, b = f j := ⟨_, rfl⟩
      rw [← hb] at p1 p2
      clear hb
      go_wp2_with fail
      go_quiet (fail)
      go_wp2_with fail
      go_roundw
      case rel => exact ⟨j + 1, by omega, by go_num, hk.drewN _⟩
      case measure => simp [intOf]; omega
    · have e : (n : Int) ≤ (j : Int) := by omega
      go_wp2_with fail
      go_ret
      exact ⟨rfl, hk⟩

theorem infoListsI : (Tryz.prog.info? 31).map (fun i => (i.zero, i.size, i.bytes)) = some (some (.slice none 0 0), 1, 24) := by kernel_rfl
theorem rowI_same (k : Nat) (b : Int) : rowI k (fun _ => b) = List.replicate k (.int .i64 b) := by
  unfold rowI
  rw [List.map_const', List.length_range]
set_option maxRecDepth 100000 in
theorem mark_any {w : World} {W hn hc : Nat} {ha : Option Addr} (q1 : w.cell? ⟨W, 1, none⟩ = some (.slice ha hn hc)) (hnb : (hn : Int) ≤ 8796093022208) :
    Calls Tryz.prog 105 #[.pointer (some ⟨W, 0, none⟩)] w fun e w' => e = .returned (.int .i64 (-1000000 - (hn : Int))) ∧ w = w' := by
  go_enter Tryz.func105, Tryz.ntmps105
  go_wp2_with fail
  go_ret
  exact ⟨rfl, rfl⟩

set_option maxRecDepth 100000 in
set_option maxHeartbeats 4000000 in
theorem keepInts_any {Q : Nat → Prop} {w0 w : World} {own : Own} {W K : Nat} {ps : List Pr} {hs : List Nat} (hW : WX Q w0 w own W ps hs K) (hK : K ≤ 8796093022208) {v : Value} {m base : Nat} {f : Nat → Int} (hrow : w.ownsRow base 3 1 v m (rowI m f)) (hbase : base ≤ w.heap.size) (hm : m ≤ 17592186043912) (hvo : ∀ g, v.ownBlock = some g → own g = (0, 0)) :
    Calls Tryz.prog 64 #[ptr W, v] w fun e w' => e = .returned (.tuple #[]) ∧ ∃ own' h, WX Q w0 w' own' W ps (hs ++ [h]) (K + 1) ∧ (∀ (p : Addr) (u : Value), own p.block ≠ (1, 0) → v.ownBlock ≠ some p.block → w.cell? p = some u → w'.cell? p = some u) ∧ Onlys own (fun y => y = (0, 0) ∨ y = (1, 0)) w w' ∧ ∀ b tg, b < w.heap.size → tg ≠ (0, 0) → own b = tg → own' b = tg := by
  obtain ⟨hv, q1, q2, q3, q4⟩ := hW.c1
  obtain ⟨ha, hn, hc, hhn, rfl⟩ : ∃ a n cap, n = hs.length ∧ hv = .slice a n cap := by
    rcases q2.2 with ⟨e, h0⟩ | ⟨g, cap, cur, e, _⟩
    · exact ⟨none, 0, 0, h0.symm, e⟩
    · exact ⟨_, _, cap, rfl, e⟩
  obtain ⟨a, cap, rfl⟩ : ∃ a cap, v = .slice a m cap := by
    rcases hrow.2 with ⟨e, h0⟩ | ⟨g, cap, cur, e, _⟩
    · exact ⟨none, 0, by rw [e, h0]⟩
    · exact ⟨_, cap, e⟩
  obtain ⟨vo, hvoe⟩ : ∃ vo, vo = (Value.slice a m cap).ownBlock := ⟨_, rfl⟩
  rw [← hvoe] at hvo
  have hvl : ∀ g, vo = some g → g < w.heap.size := fun g e => (hrow.lt g (by rw [← hvoe]; exact e)).2
  have hnb : (hn : Int) ≤ 8796093022208 := by have := hW.kh; omega
  have hm' : (m : Int) ≤ 17592186043912 := by omega
  have hWl : W < w.heap.size := hW.lt
  have hWf : w.frozen? ⟨W, 1, none⟩ = false := hW.fr 1
  have hml : 1000 < maxLen := by decide
  have hml2 : 140737488355328 < maxLen := by decide
  obtain ⟨i4, hi4, z40, z41, z42⟩ := info_parts info3
  obtain ⟨iL, hiL, zL0, zL1, zL2⟩ := info_parts infoListsI
  obtain ⟨iH, hiH, zH0, zH1, zH2⟩ := info_parts infoHoldP
  obtain ⟨mk, hmk⟩ : ∃ mk : Int, mk = -1000000 - (hn : Int) := ⟨_, rfl⟩
  have HMK : Hid (Calls Tryz.prog 105 #[.pointer (some ⟨W, 0, none⟩)] w fun e w' => e = .returned (.int .i64 mk) ∧ w = w') := by rw [hmk]; exact mark_any q1 (by omega)
  obtain ⟨Y, hY⟩ : ∃ Y, Y = w.alloc (.cells #[.slice none 0 0, .slice none 0 0, .slice none 0 0, .int .i64 mk, .bool false] 92) := ⟨_, rfl⟩
  have hkY : Keeps [] w Y := by rw [hY]; exact (Keeps.refl _ _).alloc _
  have hlY : Y.heap.size = w.heap.size + 1 := by rw [hY]; simp
  have hcY : ∀ j v, holdC mk false j = some v → Y.cell? ⟨w.heap.size, j, none⟩ = some v := fun j v hj => by
    rw [hY, World.cell?_alloc_at _ _ _ _ rfl]
    match j, hj with
    | 0, hj => exact hj
    | 1, hj => exact hj
    | 2, hj => exact hj
    | 3, hj => exact hj
    | 4, hj => exact hj
  have hcY1 : Y.cell? ⟨w.heap.size, 0, none⟩ = some (.slice none 0 0) := by rw [hY]; simp
  have hfY : ∀ j, Y.frozen? ⟨w.heap.size, j, none⟩ = false := fun j => by rw [hY]; exact World.frozen?_alloc_at _ _ _ _ rfl
  have HRow : Hid (Y.ownsRow base 3 1 (.slice a m cap) m (rowI m f)) := row_keeps hrow hkY (by simp)
  have HW : Hid (WX Q w0 w own W ps hs K) := hW
  have HQ2 : Hid (w.ownsRow 0 51 1 (.slice ha hn hc) hs.length (hs.map ptr)) := q2
  have HVo : Hid (vo = (Value.slice a m cap).ownBlock) := hvoe
  have Hhn : Hid (hn = hs.length) := hhn
  have HVO : Hid (∀ g, vo = some g → own g = (0, 0)) := hvo
  have HQ4 : Hid (∀ g, (Value.slice ha hn hc).ownBlock = some g → own g = (1, 0)) := q4
  have nW : W ∉ vo.toList := fun hin => by
    have h1 := hvo W (by simpa using hin)
    rw [hW.ow] at h1
    simp at h1
  clear hrow hvoe hhn q2 hW hvo q4
  show Calls Tryz.prog 64 #[.pointer (some ⟨W, 0, none⟩), .slice a m cap] w _
  go_enter Tryz.func64, Tryz.ntmps64
  go_wp2_with fail
  refine HMK.out.mono ?_
  rintro e w' ⟨rfl, rfl⟩
  clear hmk
  go_wp2_with fail
  rw [← hY]
  clear hY
  go_loopw [5] (fun x wr => ∃ j : Nat, j ≤ m ∧ x = .int .i64 j ∧ wr.ownsRow base 3 1 (.slice a m cap) m (rowI m (fun i => if i < j then mk else f i)) ∧ Keeps vo.toList Y wr) (fun x _ => m - (intOf x).toNat)
  case atStart =>
    refine ⟨0, by omega, rfl, ?_, Keeps.refl _ _⟩
    have e : rowI m (fun i => if i < 0 then mk else f i) = rowI m f := rowI_congr (fun i _ => by simp)
    rw [e]
    exact HRow.out
  case round =>
    obtain ⟨j, hj, rfl, hown, hk⟩ := hrel
    have nB : w.heap.size ∉ vo.toList := fun hin => by have := hvl w.heap.size (by simpa using hin); omega
    have hcr : ∀ j v, holdC mk false j = some v → wr.cell? ⟨w.heap.size, j, none⟩ = some v := fun j v hj => hk.cell (hcY j v hj) nB
    by_cases hlt : j < m
    · have hj0 : (0 : Int) ≤ (j : Int) := by omega
      have hj1 : (j : Int) < (m : Int) := by omega
      obtain ⟨g, ea⟩ : ∃ g, a = some ⟨g, 0, none⟩ := by
        rcases hown.2 with ⟨_, h0⟩ | ⟨g, cap', cur, e, _⟩
        · omega
        · simp at e; exact ⟨g, e.1⟩
      subst ea
      have evo : vo = some g := HVo.out
      have p1 : ∃ u, wr.cell? ⟨g, j, none⟩ = some u := ⟨_, by rw [World.ownsRow.cellAt hown j (by omega), rowI_get _ hlt]⟩
      obtain ⟨u, p1⟩ := p1
      have p2 := World.ownsRow.frozenAt hown j
      have p4 : wr.cell? ⟨w.heap.size, 3, none⟩ = some (.int .i64 mk) := hcr 3 _ rfl
      have hs1 := (World.ownsRow.stored hown j (.int .i64 mk)).1
      rw [rowI_set (f' := fun i => if i < j + 1 then mk else f i) (by simp) (fun i hi => by
        by_cases e : i < j
        · simp [e]; omega
        · have : ¬ i < j + 1 := by omega
          simp [e, this])] at hs1
      have HS : Hid ((wr.setCell ⟨g, j, none⟩ (.int .i64 mk)).ownsRow base 3 1 (.slice (some ⟨g, 0, none⟩) m cap) m (rowI m (fun i => if i < j + 1 then mk else f i))) := hs1
      clear hs1 hown hcr
      go_wp2_with fail
      go_roundw
      case rel =>
        exact ⟨j + 1, by omega, by go_num, HS.out, hk.setCell _ (Or.inl (by simp [evo])) _⟩
      case measure => simp [intOf]; omega
    · have hj1 : (m : Int) ≤ (j : Int) := by omega
      have hKT0 : KT w w.heap.size (.int .i64 mk) 3 31 vo 0 (holdC mk false) base m (.slice a m cap) (.slice none 0 0) [] wr := by
        refine ⟨?_, hk.cell hcY1 nB, fun j => (hk.frozen (p := ⟨w.heap.size, j, none⟩) (show w.heap.size < Y.heap.size by omega) nB).trans (hfY j), World.ownsRow_nil _ _ _ _, by simp, fun g e => ?_, (hkY.mono (by simp)).trans hk, fun j v _ hj => hcr j v hj⟩
        · have e2 : rowI m (fun i => if i < j then mk else f i) = List.replicate m (.int .i64 mk) := by
            rw [← rowI_same]
            exact rowI_congr (fun i hi => by rw [if_pos (by omega)])
          rw [← e2]
          exact hown
        · rw [← HVo.out] at e
          exact ⟨fun _ => e, by have := hvl g e; omega⟩
      have hBr : w.heap.size < wr.heap.size := by have := hk.size; omega
      obtain ⟨tv0, htv0⟩ : ∃ tv0, tv0 = Value.slice none 0 0 := ⟨_, rfl⟩
      rw [← htv0] at hKT0
      have x1 := hKT0.c1
      have xf := hKT0.fr 0
      have HKT : Hid (KT w w.heap.size (.int .i64 mk) 3 31 vo 0 (holdC mk false) base m (.slice a m cap) tv0 [] wr) := hKT0
      have hno : ∀ j, tv0.ownBlock = some j → False := fun j hj => by rw [htv0] at hj; cases hj
      clear hown hKT0 hcr htv0
      go_wp2_with (first
        | (at_builtin; refine wpList_append_own_at _ rfl _ _ 88 rfl (w.heap.size + 1) 31 iL (.slice none 0 0) 1 24 Tryz.underlying88 hiL zL0 zL1 zL2 rfl (by decide) _ 0 [] rfl (World.ownsRow.alloc HKT.out.ht _) ⟨wr.heap.size, 0, none⟩ 1 1 [.slice a m cap] rfl rfl (cell_one_new _ _ _) (by simp [Value.oneCell']) (by omega) (by omega) (by simp; omega) ?_; intro tv1 w2 hown1 hgrow1 hnil1 hat1; obtain ⟨g1, cap1, hv1⟩ := row_slice hown1 (by omega); subst hv1; have hA := (HKT.out.alloc hBr (.cells #[.slice a m cap] 31)); have hG := hA.growT (by decide) (by simp; omega) (Nat.le_refl _) hown1 hgrow1; have kk : Keeps [] wr w2 := ((Keeps.refl [] wr).alloc _).grown hgrow1 (fun j hj => (hno j hj).elim); have y1 : w2.cell? ⟨w.heap.size, 0, none⟩ = some tv0 := kk.cell x1 (by simp); have yf : w2.frozen? ⟨w.heap.size, 0, none⟩ = false := (kk.frozen (p := ⟨w.heap.size, 0, none⟩) hBr (by simp)).trans xf; have hs2 : w.heap.size < w2.heap.size := cell_lt (p := ⟨w.heap.size, 0, none⟩) y1)
        | fail)
      have HG : Hid (KT w w.heap.size (.int .i64 mk) 3 31 vo 0 (holdC mk false) base m (.slice a m cap) (.slice (some ⟨g1, 0, none⟩) 1 cap1) ([] ++ [.slice a m cap]) (w2.setCell ⟨w.heap.size, 0, none⟩ (.slice (some ⟨g1, 0, none⟩) 1 cap1))) := hG
      clear hG hA hown1 hgrow1 hnil1 hat1 kk
      go_loopw [1, 6] (fun l x wr => ∃ (j : Nat) (tv : Value) (us : List Value) (la : Option Addr) (lc : Nat), j ≤ 8 ∧ x = .int .i64 j ∧ us.length = j + 1 ∧ l = .slice la (m + j) lc ∧ KT w w.heap.size (.int .i64 mk) 3 31 vo 0 (holdC mk false) base (m + j) (.slice la (m + j) lc) tv us wr ∧ w.heap.size < wr.heap.size) (fun _ x _ => 8 - (intOf x).toNat)
      case atStart => exact ⟨0, _, _, a, cap, by omega, rfl, rfl, rfl, HG.out, by simpa using hs2⟩
      case round =>
        clear HG HKT
        obtain ⟨j, tv, us, la, lc, hj, rfl, hul, rfl, hKT, hBr⟩ := hrel
        by_cases hlt : j < 8
        · have hj0 : (0 : Int) ≤ (j : Int) := by omega
          have hj1 : (j : Int) < 8 := by omega
          have c4 : wr.cell? ⟨w.heap.size, 3, none⟩ = some (.int .i64 mk) := hKT.cs 3 _ (by omega) rfl
          have HKT : Hid (KT w w.heap.size (.int .i64 mk) 3 31 vo 0 (holdC mk false) base (m + j) (.slice la (m + j) lc) tv us wr) := hKT
          obtain ⟨un, hun⟩ : ∃ un, un = us.length := ⟨_, rfl⟩
          have HUN : Hid (un = us.length) := hun
          have hunj : un = j + 1 := by omega
          have hsz0 : w.heap.size ≤ wr.heap.size := by omega
          clear hKT hun hul
          go_wp2_with (first
            | (at_builtin; obtain ⟨g2, cap2, w3, hr3, ho3, hat3⟩ := run_append_stays base 31 31 3 i4 (.int .i64 0) 1 8 Tryz.underlying31 hi4 z40 z41 z42 rfl (by decide) (World.ownsRow.alloc HKT.out.hl (.cells #[.int .i64 mk] 3)) (a := ⟨wr.heap.size, 0, none⟩) (m := 1) (c := 1) (news := [.int .i64 mk]) rfl (cell_one_new _ _ _) (by simp [Value.oneCell']) (by omega) (by omega) (by omega) (by simp; omega); refine wpList_append_run rfl _ _ 31 rfl _ _ _ rfl rfl hr3 ?_; have hG3 := (HKT.out.alloc hBr (.cells #[.int .i64 mk] 3)).growL (by decide) (by simp; omega) (Nat.le_refl _) ho3 hat3; have z1 := hG3.c1; have zf := hG3.fr 0; have hs3 : w.heap.size < w3.heap.size := cell_lt (p := ⟨w.heap.size, 0, none⟩) z1; have HG3 : Hid (KT w w.heap.size (.int .i64 mk) 3 31 vo 0 (holdC mk false) base (m + j + 1) (.slice (some ⟨g2, 0, none⟩) (m + j + 1) cap2) tv us w3) := hG3; clear hr3 ho3 hat3 hG3)
            | (at_builtin; refine wpList_append_own_at _ rfl _ _ 88 rfl (w.heap.size + 1) 31 iL (.slice none 0 0) 1 24 Tryz.underlying88 hiL zL0 zL1 zL2 rfl (by decide) _ us.length us rfl (World.ownsRow.alloc HG3.out.ht _) ⟨w3.heap.size, 0, none⟩ 1 1 [.slice (some ⟨g2, 0, none⟩) (m + j + 1) cap2] rfl rfl (cell_one_new _ _ _) (by simp [Value.oneCell']) (by rw [← HUN.out]; omega) (by rw [← HUN.out]; omega) (by simp; omega) ?_; intro tv4 w4 hown4 hgrow4 hnil4 hat4; obtain ⟨g4, cap4, hv4⟩ := row_slice hown4 (by omega); subst hv4; have hG4 := (HG3.out.alloc hs3 (.cells #[.slice (some ⟨g2, 0, none⟩) (m + j + 1) cap2] 31)).growT (by decide) (by simp; omega) (Nat.le_refl _) hown4 hgrow4; have nBt : w.heap.size ∉ tv.ownBlock.toList := (fun hin => by have := (HG3.out.ht.lt w.heap.size (by simpa using hin)).1; omega); have kk : Keeps tv.ownBlock.toList w3 w4 := ((Keeps.refl _ w3).alloc _).grown hgrow4 (fun j hj => Or.inl (Option.mem_toList.2 hj)); have y4 : w4.cell? ⟨w.heap.size, 0, none⟩ = some tv := kk.cell z1 nBt; have yf4 : w4.frozen? ⟨w.heap.size, 0, none⟩ = false := (kk.frozen (p := ⟨w.heap.size, 0, none⟩) hs3 nBt).trans zf; have hs4 : w.heap.size < w4.heap.size := cell_lt (p := ⟨w.heap.size, 0, none⟩) y4; have HG4 : Hid (KT w w.heap.size (.int .i64 mk) 3 31 vo 0 (holdC mk false) base (m + j + 1) (.slice (some ⟨g2, 0, none⟩) (m + j + 1) cap2) (.slice (some ⟨g4, 0, none⟩) (us.length + 1) cap4) (us ++ [.slice (some ⟨g2, 0, none⟩) (m + j + 1) cap2]) (w4.setCell ⟨w.heap.size, 0, none⟩ (.slice (some ⟨g4, 0, none⟩) (us.length + 1) cap4))) := hG4; clear hown4 hgrow4 hnil4 hat4 hG4 kk)
            | fail)
          go_roundw
          case rel => exact ⟨j + 1, _, _, _, cap2, by omega, by go_num, by simp; rw [← HUN.out]; omega, rfl, HG4.out, by simpa using hs4⟩
          case measure => simp [intOf]; omega
        · have hj8 : j = 8 := by omega
          subst hj8
          have HKT : Hid (KT w w.heap.size (.int .i64 mk) 3 31 vo 0 (holdC mk false) base (m + 8) (.slice la (m + 8) lc) tv us wr) := hKT
          have d1 : wr.cell? ⟨W, 1, none⟩ = some (.slice ha hn hc) := hKT.kp.cell q1 nW
          have df : wr.frozen? ⟨W, 1, none⟩ = false := (hKT.kp.frozen (p := ⟨W, 1, none⟩) hWl nW).trans hWf
          have hrow8 : wr.ownsRow 0 51 1 (.slice ha hn hc) hn (hs.map ptr) := by
            have := row_keeps HQ2.out hKT.kp (fun g e hin => by
              have h1 := HVO.out g (by simpa using hin)
              rw [HQ4.out g e] at h1
              simp at h1)
            rw [← Hhn.out] at this
            exact this
          have HR8 : Hid (wr.ownsRow 0 51 1 (.slice ha hn hc) hn (hs.map ptr)) := hrow8
          have HUL : Hid (us.length = 9) := hul
          have nW2 : W ∉ (Value.slice ha hn hc).ownBlock.toList := by simpa using q3
          clear hKT hrow8 hul
          have hn64 : hn ≤ 8796093022208 := by omega
          go_wp2_with (first
            | (at_builtin; refine wpList_append_own_at _ rfl _ _ 27 rfl 0 51 iH (.pointer none) 1 8 Tryz.underlying27 hiH zH0 zH1 zH2 rfl (by decide) _ hn (hs.map ptr) rfl (World.ownsRow.alloc HR8.out _) ⟨wr.heap.size, 0, none⟩ 1 1 [ptr w.heap.size] rfl rfl (cell_one_new _ _ _) (by simp [Value.oneCell', ptr]) (by omega) (by omega) (by simp) ?_; intro hv9 w9 hown9 hgrow9 hnil9 hat9; obtain ⟨g9, cap9, hv9e⟩ := row_slice hown9 (by omega); subst hv9e; have kk9 : Keeps (Value.slice ha hn hc).ownBlock.toList wr w9 := ((Keeps.refl _ wr).alloc _).grown hgrow9 (fun j hj => Or.inl (Option.mem_toList.2 hj)); have e1 : w9.cell? ⟨W, 1, none⟩ = some (.slice ha hn hc) := kk9.cell d1 nW2; have ef : w9.frozen? ⟨W, 1, none⟩ = false := (kk9.frozen (p := ⟨W, 1, none⟩) (show W < wr.heap.size by omega) nW2).trans df; have HOW : Hid (w9.ownsRow 0 51 1 (.slice (some ⟨g9, 0, none⟩) (hn + 1) cap9) (hn + 1) (hs.map ptr ++ [ptr w.heap.size])) := hown9; have HGR : Hid ((wr.alloc (.cells #[ptr w.heap.size] 51)).grownBy w9 (Value.slice ha hn hc).ownBlock) := hgrow9; have HAT : Hid ((Value.slice (some ⟨g9, 0, none⟩) (hn + 1) cap9).ownBlock = (Value.slice ha hn hc).ownBlock ∨ (Value.slice (some ⟨g9, 0, none⟩) (hn + 1) cap9).ownBlock = some (wr.alloc (.cells #[ptr w.heap.size] 51)).heap.size) := hat9; clear hown9 hgrow9 hnil9 hat9 kk9)
            | fail)
          go_end0
          refine ⟨rfl, ?_⟩
          have hA8 := HKT.out.alloc hBr (.cells #[ptr w.heap.size] 51)
          have hO := HOW.out
          have hQ2 := HQ2.out
          have hAT := HAT.out
          obtain ⟨V9, hV9⟩ : ∃ V9, V9 = Value.slice (some ⟨g9, 0, none⟩) (hn + 1) cap9 := ⟨_, rfl⟩
          rw [← hV9] at hO hAT ⊢
          rw [Hhn.out] at hO
          obtain ⟨own', hfin⟩ := HW.out.hold HVO.out q1 hQ2 q3 HQ4.out (by decide) (by decide) hA8 (by rw [HUL.out]; exact Nat.le_refl _) (by omega) (by simp; omega) hO HGR.out (hAT.imp id (fun e => ⟨_, e, Nat.le_refl _⟩)) (fun own' ho hcs hc1 hl => ⟨ho, tv, .slice none 0 0, mk, false, hc1, hcs 1 _ (by omega) rfl, hcs 2 _ (by omega) rfl, hcs 3 _ (by omega) rfl, hcs 4 _ (by omega) rfl, hl, ⟨none, 0, 0, rfl, by omega, Or.inl rfl⟩⟩)
          exact ⟨own', _, hfin.1, fun p u n1 n2 hc => hfin.2.1 p u n1 (by rw [HVo.out]; exact n2) hc, hfin.2.2.1, hfin.2.2.2⟩

/-- what was hurt is said once more: nothing -/
theorem WX.hurt {Q : Nat → Prop} {w0 w : World} {own : Own} {W K : Nat} {ps : List Pr} {hs : List Nat} (h : WX Q w0 w own W ps hs K) : WX Q w0 (w.setCell ⟨W, 2, none⟩ (.bool false)) own W ps hs K := by
  have hk : Keeps [W] w (w.setCell ⟨W, 2, none⟩ (.bool false)) := (Keeps.refl _ _).setCell ⟨W, 2, none⟩ (Or.inl (by simp)) _
  have hon : Onlys own (fun y => y = (1, 0)) w (w.setCell ⟨W, 2, none⟩ (.bool false)) := ⟨_, hk, fun b hb => by simp at hb; rw [hb]; exact Or.inl h.ow⟩
  obtain ⟨pv, p1, p2, p3, p4⟩ := h.c0
  obtain ⟨hv, q1, q2, q3, q4⟩ := h.c1
  have o : ∀ j v, j ≠ 2 → w.cell? ⟨W, j, none⟩ = some v → (w.setCell ⟨W, 2, none⟩ (.bool false)).cell? ⟨W, j, none⟩ = some v := fun j v hj hc => by
    rw [World.cell?_setCell_other _ _ _ _ (by intro e; injection e; omega)]
    exact hc
  refine ⟨low_keeps h.low h.mine hon (by simp), h.mine, h.ow, fun j => by rw [World.frozen?_setCell]; exact h.fr j, ⟨pv, o 0 _ (by omega) p1, row_keeps p2 hk (fun g e hin => p3 (by simp at hin; rw [e, hin])), p3, p4⟩, ⟨hv, o 1 _ (by omega) q1, row_keeps q2 hk (fun g e hin => q3 (by simp at hin; rw [e, hin])), q3, q4⟩, World.cell?_setCell_same _ _ _ h.c2, fun i x hi hx => ?_, fun j x hx => ?_, h.kp, h.kh⟩
  · exact (h.prs i x hi hx).frame hon (by simp) (by simp) (by simp) (fun b hb e => e) (fun b hb e => e) (fun b hb e => e)
  · exact (h.hds j x hx).frame hon (by simp) (fun b hb e => e)

set_option maxRecDepth 100000 in
set_option maxHeartbeats 1000000 in
theorem unhurt_any {Q : Nat → Prop} {w0 w : World} {own : Own} {W K : Nat} {ps : List Pr} {hs : List Nat} (hW : WX Q w0 w own W ps hs K) (hK : K ≤ 4000000000000) {g n va_n vc base : Nat} {va : Option Addr} {f : Nat → Int} (hrow : w.ownsRow base 3 1 (.slice (some ⟨g, 0, none⟩) (n + 8) (n + 8)) (n + 8) (rowI (n + 8) (lentI n f))) (hbase : base ≤ w.heap.size) (hn : n ≤ 17592186043904) (hg : own g = (0, 0)) (hv : IntsAt w va n f) :
    Calls Tryz.prog 30 #[.pointer (some ⟨W, 0, none⟩), .slice (some ⟨g, 0, none⟩) (n + 8) (n + 8), .slice va n vc] w fun e w' => e = .returned (.tuple #[]) ∧ ∃ own' h, WX Q w0 w' own' W ps (hs ++ [h]) (K + 1) ∧ Onlys own (fun y => y = (0, 0) ∨ y = (1, 0)) w w' ∧ (∀ b tg, b < w.heap.size → tg ≠ (0, 0) → own b = tg → own' b = tg) ∧ Free own w w' := by
  have HL : Hid (Calls Tryz.prog 28 #[.slice va n vc] w fun e w' => ∃ g, e = .returned (.slice (some ⟨g, 0, none⟩) (n + 8) (n + 8)) ∧ w'.ownsRow w.heap.size 3 1 (.slice (some ⟨g, 0, none⟩) (n + 8) (n + 8)) (n + 8) (rowI (n + 8) (lentI n f)) ∧ Keeps [] w w') := lent_any hn hv
  have HROW : Hid (w.ownsRow base 3 1 (.slice (some ⟨g, 0, none⟩) (n + 8) (n + 8)) (n + 8) (rowI (n + 8) (lentI n f))) := hrow
  have HW : Hid (WX Q w0 w own W ps hs K) := hW
  have hWl := hW.lt
  have hgl : g < w.heap.size := (hrow.lt g rfl).2
  clear hrow hW hv
  go_enter Tryz.func30, Tryz.ntmps30
  go_wp2_with fail
  refine HL.out.mono ?_
  rintro e w1 ⟨g1, rfl, hown1, hk1⟩
  have hr1 : w1.ownsRow base 3 1 (.slice (some ⟨g, 0, none⟩) (n + 8) (n + 8)) (n + 8) (rowI (n + 8) (lentI n f)) := row_keeps HROW.out hk1 (by simp)
  have HS : Hid (Calls Tryz.prog 63 #[.slice (some ⟨g, 0, none⟩) (n + 8) (n + 8), .slice (some ⟨g1, 0, none⟩) (n + 8) (n + 8)] w1 fun e w' => e = .returned (.bool true) ∧ Keeps [] w1 w') := sameInts_any (f := lentI n f) (by omega) (fun i hi => by rw [World.ownsRow.cellAt hr1 i (by omega), rowI_get _ hi]) (fun i hi => by rw [World.ownsRow.cellAt hown1 i (by omega), rowI_get _ hi])
  clear hown1 hr1
  go_wp2_with fail
  refine HS.out.mono ?_
  rintro e w2 ⟨rfl, hk2⟩
  have hkw := hk1.trans hk2
  have hW2 : WX Q w0 w2 (newOwn own w (0, 0)) W ps hs K := HW.out.keeps hkw (fun b tg hb _ e => newOwn_stays hb e)
  have c2 := hW2.c2
  have cf := hW2.fr 2
  have hW3 := hW2.hurt
  have hr3 : (w2.setCell ⟨W, 2, none⟩ (.bool false)).ownsRow base 3 1 (.slice (some ⟨g, 0, none⟩) (n + 8) (n + 8)) (n + 8) (rowI (n + 8) (lentI n f)) := ownsRow_setCell_other (row_keeps HROW.out hkw (by simp)) (fun e => by
    have e2 : g = W := by have : some g = some W := e; simpa using this
    have h1 := HW.out.ow
    rw [← e2, hg] at h1
    simp at h1) _
  have hs2 := hkw.size
  have hk3 : Keeps [W] w (w2.setCell ⟨W, 2, none⟩ (.bool false)) := (hkw.mono (by simp)).setCell ⟨W, 2, none⟩ (Or.inl (by simp)) _
  have hkc := keepInts_any hW3 (by omega) hr3 (by simp; omega) (by omega) (fun g' e => by
    have e2 : g = g' := by have : some g = some g' := e; simpa using this
    subst e2
    exact newOwn_stays hgl hg)
  have HKC : Hid (Calls Tryz.prog 64 #[.pointer (some ⟨W, 0, none⟩), .slice (some ⟨g, 0, none⟩) (n + 8) (n + 8)] (w2.setCell ⟨W, 2, none⟩ (.bool false)) fun e w' => e = .returned (.tuple #[]) ∧ ∃ own' h, WX Q w0 w' own' W ps (hs ++ [h]) (K + 1) ∧ Onlys own (fun y => y = (0, 0) ∨ y = (1, 0)) w w' ∧ (∀ b tg, b < w.heap.size → tg ≠ (0, 0) → own b = tg → own' b = tg) ∧ Free own w w') := by
    refine Calls.mono hkc ?_
    rintro e w' ⟨rfl, own', h, h1, h2, ⟨S, h3, h3'⟩, h4⟩
    have hs3 := hk3.size
    refine ⟨rfl, own', h, h1, ⟨W :: S, (hk3.mono (by simp)).trans (h3.mono (by simp +contextual)), fun b hb => ?_⟩, fun b tg hb hne e => h4 b tg (by omega) hne (newOwn_stays hb e), fun p u h0 hc => h2 p u ?_ ?_ (hk3.cell hc (fun hin => ?_))⟩
    · rcases List.mem_cons.1 hb with e | hb
      · exact Or.inl (Or.inr (by rw [e]; exact HW.out.ow))
      · by_cases hl : b < w.heap.size
        · rcases h3' b hb with e | e
          · rw [newOwn_old hl] at e; exact Or.inl e
          · omega
        · exact Or.inr (by omega)
    · rw [newOwn_old (cell_lt hc), h0]; simp
    · intro e
      have e2 : g = p.block := by have : some g = some p.block := e; simpa using this
      rw [← e2, hg] at h0
      simp at h0
    · simp at hin
      rw [hin, HW.out.ow] at h0
      simp at h0
  clear hW2 hW3 hr3 hkc
  go_wp2_with fail
  refine HKC.out.mono ?_
  rintro e w3 ⟨rfl, hh⟩
  have HH : Hid (∃ own' h, WX Q w0 w3 own' W ps (hs ++ [h]) (K + 1) ∧ Onlys own (fun y => y = (0, 0) ∨ y = (1, 0)) w w3 ∧ (∀ b tg, b < w.heap.size → tg ≠ (0, 0) → own b = tg → own' b = tg) ∧ Free own w w3) := hh
  clear hh
  go_wp2_with fail
  go_end0
  exact ⟨rfl, HH.out⟩

end Go.Proofs.YtmgjegokkbghlaaGreat

namespace Go.Proofs.YtmgjegokkbghlaaGreat
open Go.RowKit Go.Maps Bdd
set_option linter.unusedVariables false
attribute [local go_sem ↓] Go.wp_at_zero Go.wp_at_succ

/-- what a call makes of a store, and of the law's world -/
def MadeW (Q : Nat → Prop) (w0 w : World) (own : Own) (W : Nat) (ps : List Pr) (K : Nat) (tg : Tag) (s : Nat) (A : Abs) (lb : Int) (m : Int ⊕ Fun) (e : Ending) (w' : World) : Prop :=
  e = .returned (.tuple #[.int .i64 (madeOf A m).1, .int .i64 (madeOf A m).2.1]) ∧ Known1 A m ∧ ∃ own' hs', WX Q w0 w' own' W ps hs' (K + 1) ∧ PS w' own' tg s (madeOf A m).2.2 (lb + 100000) ∧ Onlys own (fun y => y = (0, 0) ∨ y = (1, 0) ∨ y = tg) w w' ∧ (∀ b t, b < w.heap.size → t ≠ (0, 0) → own b = t → own' b = t) ∧ Free own w w'
theorem MadeP.world {w0 w w' : World} {own : Own} {W K i s : Nat} {ps : List Pr} {hs : List Nat} {tg : Tag} {A : Abs} {lb : Int} {m : Int ⊕ Fun} {e : Ending} (hW : WX (fun j => j ≠ i) w0 w own W ps hs K) (htg : tg = (2, i) ∨ tg = (3, i)) (h : MadeP w own tg s A lb m e w') : MadeW (fun j => j ≠ i) w0 w own W ps K tg s A lb m e w' := by
  obtain ⟨h1, h2, h3, h4⟩ := h
  refine ⟨h1, h2, newOwn own w tg, hs, (hW.frame h4 ?_ ?_ ?_ ?_ ?_ ?_ (fun b t hb _ e => newOwn_stays hb e) hW.low.size).wider (Nat.le_succ K), h3, ?_, fun b t hb _ e => newOwn_stays hb e, fun p u h0 hc => h4.cell hc ?_⟩
  · rcases htg with e | e <;> rw [e] <;> simp
  · rcases htg with e | e <;> rw [e] <;> simp
  · intro j hj; rcases htg with e | e <;> rw [e] <;> simp; exact hj
  · intro j hj; rcases htg with e | e <;> rw [e] <;> simp; exact hj
  · intro j hj; rcases htg with e | e <;> rw [e] <;> simp
  · intro j; rcases htg with e | e <;> rw [e] <;> simp
  · obtain ⟨S, g1, g2⟩ := h4
    exact ⟨S, g1, fun b hb => (g2 b hb).imp (fun e => Or.inr (Or.inr e)) id⟩
  · rw [h0]; rcases htg with e | e <;> rw [e] <;> simp

section
variable {w : World} {own : Own} {tg : Tag} {s W : Nat} {A : Abs} {lb : Int}
set_option maxRecDepth 100000 in
set_option maxHeartbeats 1000000 in
theorem makes12 (hA : AbsOk A) (h : PS w own tg s A lb) (hg : A.la + 1 ≤ 4611686018427387904) (hlb : lb + 100000 ≤ 4611686018427387904) {m a b c : Int} {l v : Value} (ls : List Int) (ha : Fits a) (hb : Fits b) (hc : Fits c) :
    Calls Tryz.prog 14 #[ptr W, ptr s, opV 12 m a b c l v] w (MadeP w own tg s A lb (mkF A 12 a b c ls)) := by
  obtain ⟨wb, hwb⟩ : ∃ wb, wb = w.alloc (.cells (opC 12 m a b c l v) 34) := ⟨_, rfl⟩
  have hkb : Keeps [] w wb := by rw [hwb]; exact (Keeps.refl _ _).alloc _
  have H : Hid (Calls Tryz.prog 27 #[.pointer (some ⟨s, 0, none⟩), .int .i64 a, .int .i64 b, .bool (c.tmod 2 != 0)] wb (MadeP wb own tg s A lb (mkF A 12 a b c ls))) := ps_restrict hA (h.keeps hkb (own' := own) (fun _ _ e => e)) hg hlb ha b c ls
  clear hA h hg hlb
  unfold Fits at ha hb hc
  show Calls Tryz.prog 14 #[.pointer (some ⟨W, 0, none⟩), .pointer (some ⟨s, 0, none⟩), .agg #[.int .i64 12, .int .i64 m, .int .i64 a, .int .i64 b, .int .i64 c, l, v]] w _
  unfold opC at hwb
  go_enter Tryz.func14, Tryz.ntmps14
  go_wp2_with fail
  rw [← hwb]
  clear hwb
  refine H.out.mono ?_
  intro e w' hh
  have hm : Hid (MadeP w own tg s A lb (mkF A 12 a b c ls) e w') := hh.from hkb
  have he := hh.1
  clear hh
  obtain ⟨x, hx⟩ : ∃ x, x = (madeOf A (mkF A 12 a b c ls)).1 := ⟨_, rfl⟩
  obtain ⟨y, hy⟩ : ∃ y, y = (madeOf A (mkF A 12 a b c ls)).2.1 := ⟨_, rfl⟩
  rw [← hx, ← hy] at he
  clear hx hy
  subst he
  go_wp2_with fail
  go_ret2
  exact hm.out

set_option maxRecDepth 100000 in
set_option maxHeartbeats 1000000 in
theorem made12 (hA : AbsOk A) (h : RW w own tg s A) (hD : Dep A) (hla : A.la < 4611686018427387904) {m a b c : Int} {l v : Value} (ls : List Int) (ha : Fits a) (hcf : Fits c) (hc : Known1 A (mkF A 12 a b c ls)) :
    Calls Tryz.prog 15 #[ptr s, opV 12 m a b c l v] w (MadeR w own tg s A (mkF A 12 a b c ls)) := by
  obtain ⟨wb, hwb⟩ : ∃ wb, wb = w.alloc (.cells (opC 12 m a b c l v) 34) := ⟨_, rfl⟩
  have hkb : Keeps [] w wb := by rw [hwb]; exact (Keeps.refl _ _).alloc _
  have H : Hid (Calls Tryz.prog 37 #[.pointer (some ⟨s, 0, none⟩), .int .i64 a, .int .i64 b, .bool (c.tmod 2 != 0)] wb (MadeR wb own tg s A (mkF A 12 a b c ls))) := rs_restrict hA (h.keeps hA hkb (own' := own) (fun _ _ e => e)) hD hla a b c ls hc
  have HA : Hid (AbsOk A) := hA
  clear hA h hla hc hD
  unfold Fits at ha hcf
  show Calls Tryz.prog 15 #[.pointer (some ⟨s, 0, none⟩), .agg #[.int .i64 12, .int .i64 m, .int .i64 a, .int .i64 b, .int .i64 c, l, v]] w _
  unfold opC at hwb
  go_enter Tryz.func15, Tryz.ntmps15
  go_wp2_with fail
  rw [← hwb]
  clear hwb
  refine H.out.mono ?_
  intro e w' hh
  have hm : Hid (MadeR w own tg s A (mkF A 12 a b c ls) e w') := hh.from HA.out hkb
  have he := hh.1
  clear hh
  obtain ⟨x, hx⟩ : ∃ x, x = (madeOf A (mkF A 12 a b c ls)).1 := ⟨_, rfl⟩
  obtain ⟨y, hy⟩ : ∃ y, y = (madeOf A (mkF A 12 a b c ls)).2.1 := ⟨_, rfl⟩
  rw [← hx, ← hy] at he
  clear hx hy
  subst he
  go_wp2_with fail
  go_ret2
  exact hm.out

set_option maxRecDepth 100000 in
set_option maxHeartbeats 1000000 in
theorem makes14 (hA : AbsOk A) (h : PS w own tg s A lb) (hg : A.la + 1 ≤ 4611686018427387904) (hlb : lb + 100000 ≤ 4611686018427387904) {m a b c : Int} {l v : Value} (ls : List Int) (ha : Fits a) (hb : Fits b) (hc : Fits c) :
    Calls Tryz.prog 14 #[ptr W, ptr s, opV 14 m a b c l v] w (MadeP w own tg s A lb (mkF A 14 a b c ls)) := by
  obtain ⟨wb, hwb⟩ : ∃ wb, wb = w.alloc (.cells (opC 14 m a b c l v) 34) := ⟨_, rfl⟩
  have hkb : Keeps [] w wb := by rw [hwb]; exact (Keeps.refl _ _).alloc _
  have H : Hid (Calls Tryz.prog 31 #[.pointer (some ⟨s, 0, none⟩), .int .i64 a, .int .i64 b, .int .i64 c] wb (MadeP wb own tg s A lb (mkF A 14 a b c ls))) := ps_swap hA (h.keeps hkb (own' := own) (fun _ _ e => e)) hg hlb ha b c ls
  clear hA h hg hlb
  unfold Fits at ha hb hc
  show Calls Tryz.prog 14 #[.pointer (some ⟨W, 0, none⟩), .pointer (some ⟨s, 0, none⟩), .agg #[.int .i64 14, .int .i64 m, .int .i64 a, .int .i64 b, .int .i64 c, l, v]] w _
  unfold opC at hwb
  go_enter Tryz.func14, Tryz.ntmps14
  go_wp2_with fail
  rw [← hwb]
  clear hwb
  refine H.out.mono ?_
  intro e w' hh
  have hm : Hid (MadeP w own tg s A lb (mkF A 14 a b c ls) e w') := hh.from hkb
  have he := hh.1
  clear hh
  obtain ⟨x, hx⟩ : ∃ x, x = (madeOf A (mkF A 14 a b c ls)).1 := ⟨_, rfl⟩
  obtain ⟨y, hy⟩ : ∃ y, y = (madeOf A (mkF A 14 a b c ls)).2.1 := ⟨_, rfl⟩
  rw [← hx, ← hy] at he
  clear hx hy
  subst he
  go_wp2_with fail
  go_ret2
  exact hm.out

set_option maxRecDepth 100000 in
set_option maxHeartbeats 1000000 in
theorem made14 (hA : AbsOk A) (h : RW w own tg s A) (hD : Dep A) (hla : A.la < 4611686018427387904) {m a b c : Int} {l v : Value} (ls : List Int) (ha : Fits a) (hcf : Fits c) (hc : Known1 A (mkF A 14 a b c ls)) :
    Calls Tryz.prog 15 #[ptr s, opV 14 m a b c l v] w (MadeR w own tg s A (mkF A 14 a b c ls)) := by
  obtain ⟨wb, hwb⟩ : ∃ wb, wb = w.alloc (.cells (opC 14 m a b c l v) 34) := ⟨_, rfl⟩
  have hkb : Keeps [] w wb := by rw [hwb]; exact (Keeps.refl _ _).alloc _
  have H : Hid (Calls Tryz.prog 39 #[.pointer (some ⟨s, 0, none⟩), .int .i64 a, .int .i64 b, .int .i64 c] wb (MadeR wb own tg s A (mkF A 14 a b c ls))) := rs_swap hA (h.keeps hA hkb (own' := own) (fun _ _ e => e)) hD hla a b c ls hc
  have HA : Hid (AbsOk A) := hA
  clear hA h hla hc hD
  unfold Fits at ha hcf
  show Calls Tryz.prog 15 #[.pointer (some ⟨s, 0, none⟩), .agg #[.int .i64 14, .int .i64 m, .int .i64 a, .int .i64 b, .int .i64 c, l, v]] w _
  unfold opC at hwb
  go_enter Tryz.func15, Tryz.ntmps15
  go_wp2_with fail
  rw [← hwb]
  clear hwb
  refine H.out.mono ?_
  intro e w' hh
  have hm : Hid (MadeR w own tg s A (mkF A 14 a b c ls) e w') := hh.from HA.out hkb
  have he := hh.1
  clear hh
  obtain ⟨x, hx⟩ : ∃ x, x = (madeOf A (mkF A 14 a b c ls)).1 := ⟨_, rfl⟩
  obtain ⟨y, hy⟩ : ∃ y, y = (madeOf A (mkF A 14 a b c ls)).2.1 := ⟨_, rfl⟩
  rw [← hx, ← hy] at he
  clear hx hy
  subst he
  go_wp2_with fail
  go_ret2
  exact hm.out

theorem listI {n : Nat} {f : Nat → Int} {i : Nat} (hi : i < n) : ((List.range n).map f).getD i 0 = f i := by simp [hi]
theorem listI_len (n : Nat) (f : Nat → Int) : ((List.range n).map f).length = n := by simp
theorem IntsAt.list {w : World} {va : Option Addr} {n : Nat} {g : Nat → Int} (h : IntsAt w va n g) : IntsAt w va n (fun i => ((List.range n).map g).getD i 0) := by
  rcases h with h | ⟨vb, vo, e, hc⟩
  · exact Or.inl h
  · exact Or.inr ⟨vb, vo, e, fun i hi => by simp only [listI hi]; exact hc i hi⟩

set_option maxRecDepth 100000 in
set_option maxHeartbeats 1000000 in
theorem made13 (hA : AbsOk A) (h : RW w own tg s A) (hD : Dep A) (hla : A.la < 4611686018427387904) {m a b c : Int} {va : Option Addr} {ln lc : Nat} {g : Nat → Int} {v : Value} (ha : Fits a) (hln : ln ≤ 17592186043904) (hi : IntsAt w va ln g) (hc : Known1 A (mkF A 13 a b c ((List.range ln).map g))) :
    Calls Tryz.prog 15 #[ptr s, opV 13 m a b c (.slice va ln lc) v] w (MadeR w own tg s A (mkF A 13 a b c ((List.range ln).map g))) := by
  obtain ⟨wb, hwb⟩ : ∃ wb, wb = w.alloc (.cells (opC 13 m a b c (.slice va ln lc) v) 34) := ⟨_, rfl⟩
  have hkb : Keeps [] w wb := by rw [hwb]; exact (Keeps.refl _ _).alloc _
  obtain ⟨ls, hls⟩ : ∃ ls, ls = (List.range ln).map g := ⟨_, rfl⟩
  have hlen : ln = ls.length := by rw [hls]; simp
  have H : Hid (Calls Tryz.prog 38 #[.pointer (some ⟨s, 0, none⟩), .int .i64 a, .slice va ln lc] wb (MadeR wb own tg s A (mkF A 13 a b c ls))) := by
    refine rs_exists hA (h.keeps hA hkb (own' := own) (fun _ _ e => e)) hD hla a b c ls (by omega) hlen ?_ (by rw [hls]; exact hc)
    rw [hls]
    exact (hi.keeps hkb).list
  rw [← hls]
  have HA : Hid (AbsOk A) := hA
  clear hA h hla hc hD hi hls hlen
  unfold Fits at ha
  show Calls Tryz.prog 15 #[.pointer (some ⟨s, 0, none⟩), .agg #[.int .i64 13, .int .i64 m, .int .i64 a, .int .i64 b, .int .i64 c, .slice va ln lc, v]] w _
  unfold opC at hwb
  go_enter Tryz.func15, Tryz.ntmps15
  go_wp2_with fail
  rw [← hwb]
  clear hwb
  refine H.out.mono ?_
  intro e w' hh
  have hm : Hid (MadeR w own tg s A (mkF A 13 a b c ls) e w') := hh.from HA.out hkb
  have he := hh.1
  clear hh
  obtain ⟨x, hx⟩ : ∃ x, x = (madeOf A (mkF A 13 a b c ls)).1 := ⟨_, rfl⟩
  obtain ⟨y, hy⟩ : ∃ y, y = (madeOf A (mkF A 13 a b c ls)).2.1 := ⟨_, rfl⟩
  rw [← hx, ← hy] at he
  clear hx hy
  subst he
  go_wp2_with fail
  go_ret2
  exact hm.out

set_option maxRecDepth 100000 in
set_option maxHeartbeats 2000000 in
theorem makes13 {w0 : World} {K i : Nat} {ps : List Pr} {hs : List Nat} (hW : WX (fun j => j ≠ i) w0 w own W ps hs K) (hK : K ≤ 4000000000000) (htg : tg = (2, i) ∨ tg = (3, i)) (hA : AbsOk A) (h : PS w own tg s A lb) (hg : A.la + 1 ≤ 4611686018427387904) (hlb : lb + 100000 ≤ 4611686018427387904) {m a b c : Int} {va : Option Addr} {ln lc : Nat} {g : Nat → Int} {v : Value} (ha : Fits a) (hln : ln ≤ 17592186043904) (hi : IntsAt w0 va ln g) :
    Calls Tryz.prog 14 #[ptr W, ptr s, opV 13 m a b c (.slice va ln lc) v] w (MadeW (fun j => j ≠ i) w0 w own W ps K tg s A lb (mkF A 13 a b c ((List.range ln).map g))) := by
  obtain ⟨wb, hwb⟩ : ∃ wb, wb = w.alloc (.cells (opC 13 m a b c (.slice va ln lc) v) 34) := ⟨_, rfl⟩
  have hkb : Keeps [] w wb := by rw [hwb]; exact (Keeps.refl _ _).alloc _
  have hcb : ∀ j u, (opC 13 m a b c (.slice va ln lc) v)[j]? = some u → wb.cell? ⟨w.heap.size, j, none⟩ = some u := fun j u h => by rw [hwb]; exact cell_new w _ _ rfl h
  have o2 : wb.cell? ⟨w.heap.size, 2, none⟩ = some (.int .i64 a) := hcb 2 _ rfl
  have o5 : wb.cell? ⟨w.heap.size, 5, none⟩ = some (.slice va ln lc) := hcb 5 _ rfl
  obtain ⟨ls, hls⟩ : ∃ ls, ls = (List.range ln).map g := ⟨_, rfl⟩
  have hlen : ln = ls.length := by rw [hls]; simp
  have hne0 : tg ≠ (0, 0) := by rcases htg with e | e <;> rw [e] <;> simp
  have hne3 : (0, 3) ≠ tg := by rcases htg with e | e <;> rw [e] <;> simp
  have hiw : IntsAt w va ln g := hi.keeps hW.low
  obtain ⟨own1, hown1⟩ : ∃ own1, own1 = newOwn own w (0, 0) := ⟨_, rfl⟩
  have HL : Hid (Calls Tryz.prog 28 #[.slice va ln lc] wb fun e w' => ∃ q, e = .returned (.slice (some ⟨q, 0, none⟩) (ln + 8) (ln + 8)) ∧ w'.ownsRow wb.heap.size 3 1 (.slice (some ⟨q, 0, none⟩) (ln + 8) (ln + 8)) (ln + 8) (rowI (ln + 8) (lentI ln g)) ∧ Keeps [] wb w') := lent_any hln (hiw.keeps hkb)
  have HP : Hid (∀ (w1 : World) (q cap : Nat), Keeps [] w w1 → (∀ i, i < ln → w1.cell? ⟨q, i, none⟩ = some (.int .i64 (g i))) → Calls Tryz.prog 29 #[.pointer (some ⟨s, 0, none⟩), .int .i64 a, .slice (some ⟨q, 0, none⟩) ln cap] w1 (MadeP w1 own1 tg s A lb (mkF A 13 a b c ls))) := fun w1 q cap hk hc1 =>
    ps_exists hA (h.keeps hk (fun b hb e => by rw [hown1]; exact newOwn_stays hb e)) hg hlb ha b c ls (by omega) hlen (fun j hj => by
      rw [Nat.zero_add, hc1 j (by omega), hls, listI (by omega)])
  have HW : Hid (WX (fun j => j ≠ i) w0 w own W ps hs K) := hW
  have HI : Hid (IntsAt w0 va ln g) := hi
  have HO1 : Hid (own1 = newOwn own w (0, 0)) := hown1
  have hln' : (ln : Int) ≤ 17592186043904 := by omega
  have hln0 : (0 : Int) ≤ (ln : Int) := by omega
  have hln8 : (ln : Int) ≤ ((ln + 8 : Nat) : Int) := by omega
  have hln9 : (ln : Int) ≤ (ln : Int) + 8 := by omega
  have lb1 : w.heap.size < wb.heap.size := cell_lt o2
  rw [← hls]
  obtain ⟨X, hX⟩ : ∃ X, X = (madeOf A (mkF A 13 a b c ls)).1 := ⟨_, rfl⟩
  obtain ⟨Y, hY⟩ : ∃ Y, Y = (madeOf A (mkF A 13 a b c ls)).2.1 := ⟨_, rfl⟩
  have HXY : Hid (X = (madeOf A (mkF A 13 a b c ls)).1 ∧ Y = (madeOf A (mkF A 13 a b c ls)).2.1) := ⟨hX, hY⟩
  clear hW hA h hg hlb hi hiw hls hlen hcb hown1 hX hY
  unfold Fits at ha
  show Calls Tryz.prog 14 #[.pointer (some ⟨W, 0, none⟩), .pointer (some ⟨s, 0, none⟩), .agg #[.int .i64 13, .int .i64 m, .int .i64 a, .int .i64 b, .int .i64 c, .slice va ln lc, v]] w _
  unfold opC at hwb
  go_enter Tryz.func14, Tryz.ntmps14
  go_wp2_with fail
  rw [← hwb]
  clear hwb
  refine HL.out.mono ?_
  rintro e w1 ⟨q, rfl, hrow1, hk1⟩
  have z2 := hk1.cell o2 (by simp)
  have z5 := hk1.cell o5 (by simp)
  have hkw1 := hkb.trans hk1
  have HC1 : Hid (∀ i, i < ln → w1.cell? ⟨q, i, none⟩ = some (.int .i64 (g i))) := fun i hi => by
    rw [World.ownsRow.cellAt hrow1 i (by omega), rowI_get _ (by omega)]
    simp [lentI, hi]
  have HROW1 : Hid (w1.ownsRow wb.heap.size 3 1 (.slice (some ⟨q, 0, none⟩) (ln + 8) (ln + 8)) (ln + 8) (rowI (ln + 8) (lentI ln g))) := hrow1
  clear hrow1
  go_wp2_with fail
  go_region_held3 (fun w' => w'.cell? ⟨w.heap.size, 2, none⟩ = some (.int .i64 a) ∧ w'.cell? ⟨w.heap.size, 5, none⟩ = some (.slice va ln lc))
    (first | exact ⟨z2, z5⟩ | exact ⟨y2, y5⟩ | assumption)
    (first
      | (go_at_call 29; refine (HP.out w1.drew q _ hkw1.drew (fun i hi => HC1.out i hi)).mono ?_; intro e w2 hh2; have he2 := hh2.1; rw [← HXY.out.1, ← HXY.out.2] at he2; have HH2 : Hid (MadeP w1.drew own1 tg s A lb (mkF A 13 a b c ls) e w2) := hh2; have ob : own1 w.heap.size = (0, 0) := (by rw [HO1.out]; exact newOwn_new (Nat.le_refl _)); have y2 := hh2.2.2.2.cell (p := ⟨w.heap.size, 2, none⟩) z2 (by show ¬ (own1 w.heap.size = tg); rw [ob]; exact fun e => hne0 e.symm); have y5 := hh2.2.2.2.cell (p := ⟨w.heap.size, 5, none⟩) z5 (by show ¬ (own1 w.heap.size = tg); rw [ob]; exact fun e => hne0 e.symm); subst he2; clear hh2))
  have hMP := HH2.out
  have hWd : WX (fun j => j ≠ i) w0 w1.drew own1 W ps hs K := HW.out.keeps hkw1.drew (fun b t hb _ e => by rw [HO1.out]; exact newOwn_stays hb e)
  have hMW := hMP.world hWd htg
  obtain ⟨own2, hown2⟩ : ∃ own2, own2 = newOwn own1 w1.drew tg := ⟨_, rfl⟩
  have hW2 : WX (fun j => j ≠ i) w0 w2 own2 W ps hs K := by
    rw [hown2]
    refine hWd.frame hMP.2.2.2 ?_ ?_ ?_ ?_ ?_ ?_ (fun b t hb _ e => newOwn_stays hb e) hWd.low.size
    · rcases htg with e | e <;> rw [e] <;> simp
    · rcases htg with e | e <;> rw [e] <;> simp
    · intro j hj; rcases htg with e | e <;> rw [e] <;> simp; exact hj
    · intro j hj; rcases htg with e | e <;> rw [e] <;> simp; exact hj
    · intro j hj; rcases htg with e | e <;> rw [e] <;> simp
    · intro j; rcases htg with e | e <;> rw [e] <;> simp
  have hq1 : wb.heap.size ≤ q ∧ q < w1.heap.size := HROW1.out.lt q rfl
  have oq1 : own1 q = (0, 0) := by rw [HO1.out]; exact newOwn_new (by omega)
  have oq2 : own2 q = (0, 0) := by rw [hown2]; exact newOwn_stays (show q < w1.drew.heap.size from hq1.2) oq1
  have hrow2 : w2.ownsRow wb.heap.size 3 1 (.slice (some ⟨q, 0, none⟩) (ln + 8) (ln + 8)) (ln + 8) (rowI (ln + 8) (lentI ln g)) := hMP.2.2.2.row (HROW1.out.drew) (fun g' e => by
    have e2 : q = g' := by have : some q = some g' := e; simpa using this
    rw [← e2, oq1]
    exact fun e => hne0 e.symm)
  have hs2 := hMP.2.2.2.size
  have hs1 : wb.heap.size ≤ w1.heap.size := hk1.size
  have hu := unhurt_any (vc := lc) (va_n := 0) hW2 hK hrow2 (by have : w1.drew.heap.size = w1.heap.size := rfl; omega) hln oq2 (HI.out.keeps hW2.low)
  have HU : Hid (Calls Tryz.prog 30 #[.pointer (some ⟨W, 0, none⟩), .slice (some ⟨q, 0, none⟩) (ln + 8) (ln + 8), .slice va ln lc] w2 fun e w' => e = .returned (.tuple #[]) ∧ MadeW (fun j => j ≠ i) w0 w own W ps K tg s A lb (mkF A 13 a b c ls) (.returned (.tuple #[.int .i64 X, .int .i64 Y])) w') := by
    refine Calls.mono hu ?_
    rintro e w3 ⟨rfl, own3, h3, hW3, hon3, hown3, hfr3⟩
    refine ⟨rfl, by rw [HXY.out.1, HXY.out.2], hMP.2.1, own3, _, hW3, ?_, ?_, fun b t hb hne e => ?_, fun p u h0 hc => ?_⟩
    · have hps := hMP.2.2.1
      rw [← hown2] at hps
      exact hps.frame hon3 (by intro e; rcases e with e | e <;> rcases htg with e' | e' <;> rw [e'] at e <;> simp at e) (fun b hb e => hown3 b tg hb hne0 e)
    · obtain ⟨S1, g1, g2⟩ := hMP.2.2.2
      obtain ⟨S2, g3, g4⟩ := hon3
      have hkk := hkw1.drew
      refine ⟨S1 ++ S2, ((hkk.mono (by simp)).trans (g1.mono (by simp +contextual))).trans (g3.mono (by simp +contextual)), fun b hb => ?_⟩
      by_cases hl : b < w.heap.size
      · left
        have hl1 : b < w1.drew.heap.size := by have := hkk.size; omega
        have hl2 : b < w2.heap.size := by have := g1.size; omega
        have e1 : own1 b = own b := by rw [HO1.out]; exact newOwn_old hl
        have e2 : own2 b = own b := by rw [hown2, newOwn_old hl1]; exact e1
        rcases List.mem_append.1 hb with hb | hb
        · rcases g2 b hb with e | e
          · rw [e1] at e; exact Or.inr (Or.inr e)
          · omega
        · rcases g4 b hb with e | e
          · rw [e2] at e; exact e.imp id Or.inl
          · omega
      · exact Or.inr (by omega)
    · have hl1 : b < w1.drew.heap.size := by have := hkw1.drew.size; omega
      have e1 : own1 b = t := by rw [HO1.out]; exact newOwn_stays hb e
      have e2 : own2 b = t := by rw [hown2]; exact newOwn_stays hl1 e1
      exact hown3 b t (by omega) hne e2
    · have hl := cell_lt hc
      have hl1 : p.block < w1.drew.heap.size := by have := hkw1.drew.size; omega
      have e1 : own1 p.block = (0, 3) := by rw [HO1.out]; exact newOwn_stays hl h0
      have e2 : own2 p.block = (0, 3) := by rw [hown2]; exact newOwn_stays hl1 e1
      exact hfr3 p u e2 (hMP.2.2.2.cell (hkw1.drew.cell hc (by simp)) (by rw [e1]; exact hne3))
  clear hMP hWd hMW hW2 hrow2 hu
  go_wp2_with fail
  refine HU.out.mono ?_
  rintro e w3 ⟨rfl, hfin⟩
  have HFIN : Hid (MadeW (fun j => j ≠ i) w0 w own W ps K tg s A lb (mkF A 13 a b c ls) (.returned (.tuple #[.int .i64 X, .int .i64 Y])) w3) := hfin
  clear hfin
  go_wp2_with fail
  go_ret2
  exact HFIN.out
end

end Go.Proofs.YtmgjegokkbghlaaGreat

namespace Go.Proofs.YtmgjegokkbghlaaGreat
open Go.RowKit Go.Maps Bdd
set_option linter.unusedVariables false
attribute [local go_sem ↓] Go.wp_at_zero Go.wp_at_succ

set_option maxRecDepth 100000 in
theorem isMake_yes2 {w : World} {k : Int} (h : 12 ≤ k ∧ k ≤ 14) : Calls Tryz.prog 13 #[.int .i64 k] w fun e w' => e = .returned (.bool true) ∧ w = w' := by
  obtain ⟨h1, h2⟩ := h
  have h3 : 2 ≤ k := by omega
  have d6 : decide (k ≤ 6) = false := by simp; omega
  go_enter Tryz.func13, Tryz.ntmps13
  go_wp2_with fail
  go_ret
  exact ⟨rfl, rfl⟩
set_option maxRecDepth 100000 in
theorem isMake_no2 {w : World} {k : Int} (h : k < 2 ∨ (6 < k ∧ k < 12) ∨ 14 < k) : Calls Tryz.prog 13 #[.int .i64 k] w fun e w' => e = .returned (.bool false) ∧ w = w' := by
  by_cases h1 : k < 2
  · clear h
    go_enter Tryz.func13, Tryz.ntmps13
    go_wp2_with fail
    go_ret
    exact ⟨rfl, rfl⟩
  · have h2 : 6 < k := by omega
    have h3 : 2 ≤ k := by omega
    have d6 : decide (k ≤ 6) = false := by simp; omega
    by_cases h4 : k < 12
    · clear h h1
      go_enter Tryz.func13, Tryz.ntmps13
      go_wp2_with fail
      go_ret
      exact ⟨rfl, rfl⟩
    · have h5 : 12 ≤ k := by omega
      have d14 : decide (k ≤ 14) = false := by simp; omega
      clear h h1 h4
      go_enter Tryz.func13, Tryz.ntmps13
      go_wp2_with fail
      go_ret
      exact ⟨rfl, rfl⟩

set_option maxRecDepth 100000 in
theorem sameTruths_nil {w : World} : Calls Tryz.prog 52 #[.slice none 0 0, .slice none 0 0] w fun e w' => e = .returned (.bool true) ∧ Keeps [] w w' := by
  go_enter Tryz.func52, Tryz.ntmps52
  go_wp2_with fail
  go_loopw [5] (fun x wr => x = .int .i64 0 ∧ Keeps [] w wr) (fun _ _ => 0)
  case atStart => exact ⟨rfl, Keeps.refl _ _⟩
  case round =>
    obtain ⟨rfl, hk⟩ := hrel
    go_wp2_with fail
    go_ret
    exact ⟨rfl, hk⟩

/-- two answers of Least are the same -/
theorem LeastV.same {A : Abs} {f : Int} {w1 w2 : World} {b1 b2 : Nat} {v1 v2 : Value} {x1 x2 : Int} (h1 : LeastV A f w1 b1 v1 x1) (h2 : LeastV A f w2 b2 v2 x2) : x1 = x2 ∧ ((v1 = .slice none 0 0 ∧ v2 = .slice none 0 0) ∨ ∃ i, w1.ownsRow b1 4 1 v1 A.n (digB A.n i A.n) ∧ w2.ownsRow b2 4 1 v2 A.n (digB A.n i A.n)) := by
  rcases h1 with ⟨a1, a2, a3⟩ | ⟨F, a1, a2, a3⟩
  · rcases h2 with ⟨b1, b2, b3⟩ | ⟨G, b1, b2, b3⟩
    · exact ⟨by rw [a3, b3], Or.inl ⟨a2, b2⟩⟩
    · rw [a1] at b1; cases b1
  · rcases h2 with ⟨b1, b2, b3⟩ | ⟨G, b1, b2, b3⟩
    · rw [a1] at b1; cases b1
    · rw [a1] at b1
      cases b1
      refine ⟨by rw [a2, b2], ?_⟩
      rcases a3 with ⟨c1, c2⟩ | ⟨i, c1, c2, c3, c4⟩
      · rcases b3 with ⟨d1, d2⟩ | ⟨j, d1, d2, d3, d4⟩
        · exact Or.inl ⟨c2, d2⟩
        · rw [c1 j d1] at d2; cases d2
      · rcases b3 with ⟨d1, d2⟩ | ⟨j, d1, d2, d3, d4⟩
        · rw [d1 i c1] at c2; cases c2
        · have e : i = j := by
            rcases Nat.lt_trichotomy i j with h | h | h
            · rw [d3 i h] at c2; cases c2
            · exact h
            · rw [c3 j h] at d2; cases d2
          subst e
          exact Or.inr ⟨i, c4, d4⟩

set_option maxRecDepth 100000 in
set_option maxHeartbeats 1000000 in
theorem asks16 {w : World} {own : Own} {i : Nat} {x : Pr} {K W : Nat} (h : PairOk w own i x K) {m a b c : Int} {l v : Value} (ha : Fits a) :
    Calls Tryz.prog 19 #[ptr W, .agg #[ptr x.p, ptr x.q, ptr x.r], opV 16 m a b c l v] w fun e w' => e = .returned (.bool true) ∧ Keeps [] w w' := by
  obtain ⟨hA, _, hp, hq, hr⟩ := h
  obtain ⟨wb, hwb⟩ : ∃ wb, wb = boxed w x.p x.q x.r 16 m a b c l v := ⟨_, rfl⟩
  have hkb : Keeps [] w wb := by rw [hwb]; exact boxed_keeps ..
  have x0 : wb.cell? ⟨w.heap.size, 0, none⟩ = some (.pointer (some ⟨x.p, 0, none⟩)) := by rw [hwb]; exact boxed_pair _ _ _ _ _ _ _ _ _ _ _ 0 _ rfl
  have x2 : wb.cell? ⟨w.heap.size, 2, none⟩ = some (.pointer (some ⟨x.r, 0, none⟩)) := by rw [hwb]; exact boxed_pair _ _ _ _ _ _ _ _ _ _ _ 2 _ rfl
  have o0 : wb.cell? ⟨w.heap.size + 1, 0, none⟩ = some (.int .i64 16) := by rw [hwb]; exact boxed_op _ _ _ _ _ _ _ _ _ _ _ 0 _ rfl
  have o2 : wb.cell? ⟨w.heap.size + 1, 2, none⟩ = some (.int .i64 a) := by rw [hwb]; exact boxed_op _ _ _ _ _ _ _ _ _ _ _ 2 _ rfl
  have HP : Hid (Calls Tryz.prog 61 #[.pointer (some ⟨x.p, 0, none⟩), .int .i64 a] wb fun e w' => Keeps [] wb w' ∧ ∃ s1 s2 : Int, e = .returned (.tuple #[.int .i64 s1, .int .i64 s2]) ∧ Calls Tryz.prog 62 #[.pointer (some ⟨x.r, 0, none⟩), .int .i64 a] w' fun e w2 => e = .returned (.tuple #[.int .i64 s1, .int .i64 s2]) ∧ Keeps [] w' w2) := by
    refine (ps_size hA (hp.keeps hkb (own' := own) (fun _ _ e => e)) ha).mono ?_
    rintro e w' ⟨hk, s1, s2, rfl, hh⟩
    exact ⟨hk, s1, s2, rfl, hh w' own (4, i) x.r (hr.keeps hA (hkb.trans hk) (fun _ _ e => e))⟩
  obtain ⟨p, hp'⟩ : ∃ p, p = x.p := ⟨_, rfl⟩
  obtain ⟨q, hq'⟩ : ∃ q, q = x.q := ⟨_, rfl⟩
  obtain ⟨r, hr'⟩ : ∃ r, r = x.r := ⟨_, rfl⟩
  rw [← hp'] at HP x0 hwb ⊢
  rw [← hr'] at HP x2 hwb ⊢
  rw [← hq'] at hwb ⊢
  clear hA hp hq hr hp' hq' hr'
  unfold Fits at ha
  show Calls Tryz.prog 19 #[.pointer (some ⟨W, 0, none⟩), .agg #[.pointer (some ⟨p, 0, none⟩), .pointer (some ⟨q, 0, none⟩), .pointer (some ⟨r, 0, none⟩)], .agg #[.int .i64 16, .int .i64 m, .int .i64 a, .int .i64 b, .int .i64 c, l, v]] w _
  unfold boxed opC ptr at hwb
  go_enter Tryz.func19, Tryz.ntmps19
  go_wp2_with fail
  rw [← hwb]
  clear hwb
  refine HP.out.mono ?_
  rintro e w1 ⟨hk1, s1, s2, rfl, hh⟩
  have HH : Hid (Calls Tryz.prog 62 #[.pointer (some ⟨r, 0, none⟩), .int .i64 a] w1 fun e w2 => e = .returned (.tuple #[.int .i64 s1, .int .i64 s2]) ∧ Keeps [] w1 w2) := hh
  have y2 := hk1.cell x2 (by simp)
  have z2 := hk1.cell o2 (by simp)
  have e1 : (s1 == s1) = true := by simp
  have e2 : (s2 == s2) = true := by simp
  clear hh
  go_wp2_with fail
  refine HH.out.mono ?_
  rintro e w2 ⟨rfl, hk2⟩
  go_wp2_with fail
  go_ret
  exact ⟨rfl, (hkb.trans hk1).trans hk2⟩

set_option maxRecDepth 100000 in
set_option maxHeartbeats 2000000 in
theorem asks15 {w0 w : World} {own : Own} {W K i : Nat} {ps : List Pr} {hs : List Nat} {x : Pr} (hW : WAt w0 w own W ps hs K) (hK : K ≤ 4000000000000) (hx : ps[i]? = some x) {m a b c : Int} {l v : Value} (ha : Fits a) :
    Calls Tryz.prog 19 #[ptr W, .agg #[ptr x.p, ptr x.q, ptr x.r], opV 15 m a b c l v] w fun e w' => e = .returned (.bool true) ∧ (∃ own' h, WAt w0 w' own' W ps (hs ++ [h]) (K + 1)) ∧ Free own w w' := by
  have HW : Hid (WAt w0 w own W ps hs K) := hW
  obtain ⟨hA, _, hp, hq, hr⟩ := hW.prs i x trivial hx
  obtain ⟨wb, hwb⟩ : ∃ wb, wb = boxed w x.p x.q x.r 15 m a b c l v := ⟨_, rfl⟩
  have hkb : Keeps [] w wb := by rw [hwb]; exact boxed_keeps ..
  have x0 : wb.cell? ⟨w.heap.size, 0, none⟩ = some (.pointer (some ⟨x.p, 0, none⟩)) := by rw [hwb]; exact boxed_pair _ _ _ _ _ _ _ _ _ _ _ 0 _ rfl
  have x2 : wb.cell? ⟨w.heap.size, 2, none⟩ = some (.pointer (some ⟨x.r, 0, none⟩)) := by rw [hwb]; exact boxed_pair _ _ _ _ _ _ _ _ _ _ _ 2 _ rfl
  have o0 : wb.cell? ⟨w.heap.size + 1, 0, none⟩ = some (.int .i64 15) := by rw [hwb]; exact boxed_op _ _ _ _ _ _ _ _ _ _ _ 0 _ rfl
  have o2 : wb.cell? ⟨w.heap.size + 1, 2, none⟩ = some (.int .i64 a) := by rw [hwb]; exact boxed_op _ _ _ _ _ _ _ _ _ _ _ 2 _ rfl
  have hn8 := hA.n8
  have hn1 := hA.n1
  have HP : Hid (Calls Tryz.prog 59 #[.pointer (some ⟨x.p, 0, none⟩), .int .i64 a] wb fun e w' => Keeps [] wb w' ∧ ∃ v s, e = .returned (.tuple #[v, .int .i64 s]) ∧ LeastV x.A a w' wb.heap.size v s) := ps_least hA (hp.keeps hkb (own' := own) (fun _ _ e => e)) ha
  have HR : Hid (∀ w1, Keeps [] wb w1 → Calls Tryz.prog 60 #[.pointer (some ⟨x.r, 0, none⟩), .int .i64 a] w1 fun e w' => Keeps [] w1 w' ∧ ∃ v s, e = .returned (.tuple #[v, .int .i64 s]) ∧ LeastV x.A a w' w1.heap.size v s) := fun w1 hk => rs_least hA (hr.keeps hA (hkb.trans hk) (own' := own) (fun _ _ e => e)) a
  have HKT : Hid (∀ (w1 : World) (v : Value) (n : Nat) (f : Nat → Bool), Keeps [] w w1 → n ≤ 8 → w1.ownsRow wb.heap.size 4 1 v n (rowB n f) → Calls Tryz.prog 53 #[.pointer (some ⟨W, 0, none⟩), v] w1 fun e w' => e = .returned (.tuple #[]) ∧ (∃ own' h, WAt w0 w' own' W ps (hs ++ [h]) (K + 1)) ∧ Free own w w') := fun w1 v n f hk hn hown => by
    have hs1 := hk.size
    refine Calls.mono (keepTruths_any (own := newOwn own w (0, 0)) (HW.out.keeps hk (fun b tg hb _ e => by rw [newOwn_old hb]; exact e)) (by omega) (base := 0) (row_mono hown (Nat.zero_le _)) (Nat.zero_le _) (by omega) (fun g' e => newOwn_new (by have h1 := (hown.lt g' e).1; have h2 := hkb.size; omega))) ?_
    rintro e w' ⟨rfl, own', h, h1, h2, _, _⟩
    refine ⟨rfl, ⟨own', h, h1⟩, fun p u h0 hc => h2 p u (by rw [newOwn_old (cell_lt hc), h0]; simp) (fun e => ?_) (hk.cell hc (by simp))⟩
    have h3 := (hown.lt _ e).1
    have h4 := hkb.size
    have h5 := cell_lt hc
    omega
  obtain ⟨n, hnn⟩ : ∃ n, n = x.A.n := ⟨_, rfl⟩
  have HNN : Hid (n = x.A.n) := hnn
  obtain ⟨p, hp'⟩ : ∃ p, p = x.p := ⟨_, rfl⟩
  obtain ⟨q, hq'⟩ : ∃ q, q = x.q := ⟨_, rfl⟩
  obtain ⟨r, hr'⟩ : ∃ r, r = x.r := ⟨_, rfl⟩
  rw [← hp'] at HP x0 hwb ⊢
  rw [← hr'] at HR x2 hwb ⊢
  rw [← hq'] at hwb ⊢
  clear hA hp hq hr hp' hq' hr' hW hx hnn
  unfold Fits at ha
  show Calls Tryz.prog 19 #[.pointer (some ⟨W, 0, none⟩), .agg #[.pointer (some ⟨p, 0, none⟩), .pointer (some ⟨q, 0, none⟩), .pointer (some ⟨r, 0, none⟩)], .agg #[.int .i64 15, .int .i64 m, .int .i64 a, .int .i64 b, .int .i64 c, l, v]] w _
  unfold boxed opC ptr at hwb
  go_enter Tryz.func19, Tryz.ntmps19
  go_wp2_with fail
  rw [← hwb]
  clear hwb
  refine HP.out.mono ?_
  rintro e w1 ⟨hk1, v1, s1, rfl, hL1⟩
  have y2 := hk1.cell x2 (by simp)
  have z2 := hk1.cell o2 (by simp)
  have HL1 : Hid (LeastV x.A a w1 wb.heap.size v1 s1) := hL1
  clear hL1
  go_wp2_with fail
  refine (HR.out _ hk1).mono ?_
  rintro e w2 ⟨hk2, v2, s2, rfl, hL2⟩
  obtain ⟨es, hv⟩ := HL1.out.same hL2
  subst es
  have e1 : (s1 == s1) = true := by simp
  have hkw2 := (hkb.trans hk1).trans hk2
  obtain ⟨f, hS, hrow⟩ : ∃ f : Nat → Bool, Hid (Calls Tryz.prog 52 #[v1, v2] w2 fun e w' => e = .returned (.bool true) ∧ Keeps [] w2 w') ∧ ∃ n, n ≤ 8 ∧ w2.ownsRow wb.heap.size 4 1 v1 n (rowB n f) := by
    rcases hv with ⟨rfl, rfl⟩ | ⟨i, hr1, hr2⟩
    · exact ⟨fun _ => false, sameTruths_nil, 0, by omega, World.ownsRow_nil _ _ _ _⟩
    · refine ⟨fun v => asgN x.A.n i (v : Int), ?_, x.A.n, hn8, row_keeps hr1 hk2 (by simp)⟩
      have hr1' := row_keeps hr1 hk2 (S := []) (by simp)
      have hn1' := hn1
      · obtain ⟨g, cap, rfl⟩ := row_slice hr1' (by omega)
        obtain ⟨g', cap', rfl⟩ := row_slice hr2 (by omega)
        exact sameTruths_any (f := fun v => asgN x.A.n i (v : Int)) (by omega) (fun j hj => by rw [World.ownsRow.cellAt hr1' j (by omega)]; simp [digB, hj]) (fun j hj => by rw [World.ownsRow.cellAt hr2 j (by omega)]; simp [digB, hj])
  obtain ⟨n2, hn2, hrow2⟩ := hrow
  have HROW : Hid (w2.ownsRow wb.heap.size 4 1 v1 n2 (rowB n2 f)) := hrow2
  clear hv hL2 hrow2
  obtain ⟨a1, l1, c1, rfl⟩ : ∃ a1 l1 c1, v1 = .slice a1 l1 c1 := by
    rcases HROW.out.2 with ⟨e, _⟩ | ⟨g, cap, cur, e, _⟩
    · exact ⟨_, _, _, e⟩
    · exact ⟨_, _, _, e⟩
  go_wp2_with fail
  refine hS.out.mono ?_
  rintro e w3 ⟨rfl, hk3⟩
  have hkk := HKT.out w3 (.slice a1 l1 c1) n2 f (hkw2.trans hk3) hn2 (row_keeps HROW.out hk3 (by simp))
  go_wp2_with fail
  refine hkk.mono ?_
  rintro e w4 ⟨rfl, hfin⟩
  have HFIN : Hid ((∃ own' h, WAt w0 w4 own' W ps (hs ++ [h]) (K + 1)) ∧ Free own w w4) := hfin
  clear hfin hkk
  go_wp2_with fail
  go_ret
  exact ⟨rfl, HFIN.out⟩

end Go.Proofs.YtmgjegokkbghlaaGreat
