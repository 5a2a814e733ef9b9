/- keepTruths: the walk. -/
import Derived.Test.YtmgjegokkbghlaaGreatLawD
namespace Go.Proofs.YtmgjegokkbghlaaGreat
open Go.RowKit Go.Maps Bdd
set_option linter.unusedVariables false
attribute [local go_sem ↓] Go.wp_at_zero Go.wp_at_succ

/-- the hold's cells but the one that is written -/
def holdC (m : Int) (b : Bool) : Nat → Option Value
  | 0 => some (.slice none 0 0)
  | 1 => some (.slice none 0 0)
  | 2 => some (.slice none 0 0)
  | 3 => some (.int .i64 m)
  | 4 => some (.bool b)
  | _ => none

theorem row_slice {w : World} {base : Nat} {e : TypeId} {size : Nat} {v : Value} {n : Nat} {xs : List Value} (h : w.ownsRow base e size v n xs) (hn : 0 < n) : ∃ g cap, v = .slice (some ⟨g, 0, none⟩) n cap := by
  rcases h.2 with ⟨_, h0⟩ | ⟨g, cap, cur, e, _⟩
  · omega
  · exact ⟨g, cap, e⟩

set_option maxRecDepth 100000 in
set_option maxHeartbeats 4000000 in
theorem keepTruths_any {Q : Nat → Prop} {w0 w : World} {own : Own} {W K : Nat} {ps : List Pr} {hs : List Nat} (hW : WX Q w0 w own W ps hs K) (hK : K ≤ 8796093022208) {v : Value} {m base : Nat} {f : Nat → Bool} (hrow : w.ownsRow base 4 1 v m (rowB m f)) (hbase : base ≤ w.heap.size) (hm : m ≤ 140737488351240) (hvo : ∀ g, v.ownBlock = some g → own g = (0, 0)) :
    Calls Tryz.prog 53 #[ptr W, v] w fun e w' => e = .returned (.tuple #[]) ∧ ∃ own' h, WX Q w0 w' own' W ps (hs ++ [h]) (K + 1) ∧ ∀ (p : Addr) (u : Value), own p.block ≠ (1, 0) → v.ownBlock ≠ some p.block → w.cell? p = some u → w'.cell? p = some u := by
  obtain ⟨hv, q1, q2, q3, q4⟩ := hW.c1
  obtain ⟨ha, hn, hc, hhn, rfl⟩ : ∃ a n cap, n = hs.length ∧ hv = .slice a n cap := by
    rcases q2.2 with ⟨e, h0⟩ | ⟨g, cap, cur, e, _⟩
    · exact ⟨none, 0, 0, h0.symm, e⟩
    · exact ⟨_, _, cap, rfl, e⟩
  obtain ⟨a, cap, rfl⟩ : ∃ a cap, v = .slice a m cap := by
    rcases hrow.2 with ⟨e, h0⟩ | ⟨g, cap, cur, e, _⟩
    · exact ⟨none, 0, by rw [e, h0]⟩
    · exact ⟨_, cap, e⟩
  obtain ⟨vo, hvoe⟩ : ∃ vo, vo = (Value.slice a m cap).ownBlock := ⟨_, rfl⟩
  rw [← hvoe] at hvo
  have hvl : ∀ g, vo = some g → g < w.heap.size := fun g e => (hrow.lt g (by rw [← hvoe]; exact e)).2
  have hnb : (hn : Int) ≤ 8796093022208 := by have := hW.kh; omega
  have hm' : (m : Int) ≤ 140737488351240 := by omega
  have hWl : W < w.heap.size := hW.lt
  have hWf : w.frozen? ⟨W, 1, none⟩ = false := hW.fr 1
  have hml : 1000 < maxLen := by decide
  have hml2 : 140737488355328 < maxLen := by decide
  obtain ⟨i4, hi4, z40, z41, z42⟩ := info_parts info4
  obtain ⟨iL, hiL, zL0, zL1, zL2⟩ := info_parts infoLists
  obtain ⟨iH, hiH, zH0, zH1, zH2⟩ := info_parts infoHoldP
  obtain ⟨b, hb⟩ : ∃ b : Bool, b = ((hn : Int) % 2 == 0) := ⟨_, rfl⟩
  obtain ⟨Y, hY⟩ : ∃ Y, Y = w.alloc (.cells #[.slice none 0 0, .slice none 0 0, .slice none 0 0, .int .i64 0, .bool b] 92) := ⟨_, rfl⟩
  have hkY : Keeps [] w Y := by rw [hY]; exact (Keeps.refl _ _).alloc _
  have hlY : Y.heap.size = w.heap.size + 1 := by rw [hY]; simp
  have hcY : ∀ j v, holdC 0 b j = some v → Y.cell? ⟨w.heap.size, j, none⟩ = some v := fun j v hj => by
    rw [hY, World.cell?_alloc_at _ _ _ _ rfl]
    match j, hj with
    | 0, hj => exact hj
    | 1, hj => exact hj
    | 2, hj => exact hj
    | 3, hj => exact hj
    | 4, hj => exact hj
  have hcY1 : Y.cell? ⟨w.heap.size, 1, none⟩ = some (.slice none 0 0) := by rw [hY]; simp
  have hfY : ∀ j, Y.frozen? ⟨w.heap.size, j, none⟩ = false := fun j => by rw [hY]; exact World.frozen?_alloc_at _ _ _ _ rfl
  have HRow : Hid (Y.ownsRow base 4 1 (.slice a m cap) m (rowB m f)) := row_keeps hrow hkY (by simp)
  have HW : Hid (WX Q w0 w own W ps hs K) := hW
  have HQ2 : Hid (w.ownsRow 0 51 1 (.slice ha hn hc) hs.length (hs.map ptr)) := q2
  have HVo : Hid (vo = (Value.slice a m cap).ownBlock) := hvoe
  have Hhn : Hid (hn = hs.length) := hhn
  have HVO : Hid (∀ g, vo = some g → own g = (0, 0)) := hvo
  have HQ4 : Hid (∀ g, (Value.slice ha hn hc).ownBlock = some g → own g = (1, 0)) := q4
  have nW : W ∉ vo.toList := fun hin => by
    have h1 := hvo W (by simpa using hin)
    rw [hW.ow] at h1
    simp at h1
  clear hrow hvoe hhn q2 hW hvo q4
  show Calls Tryz.prog 53 #[.pointer (some ⟨W, 0, none⟩), .slice a m cap] w _
  go_enter Tryz.func53, Tryz.ntmps53
  go_wp2_with fail
  rw [← hb, ← hY]
  clear hb hY
  go_loopw [5] (fun x wr => ∃ j : Nat, j ≤ m ∧ x = .int .i64 j ∧ wr.ownsRow base 4 1 (.slice a m cap) m (rowB m (fun i => if i < j then b else f i)) ∧ Keeps vo.toList Y wr) (fun x _ => m - (intOf x).toNat)
  case atStart =>
    refine ⟨0, by omega, rfl, ?_, Keeps.refl _ _⟩
    have e : rowB m (fun i => if i < 0 then b else f i) = rowB m f := rowB_congr (fun i _ => by simp)
    rw [e]
    exact HRow.out
  case round =>
    obtain ⟨j, hj, rfl, hown, hk⟩ := hrel
    have nB : w.heap.size ∉ vo.toList := fun hin => by have := hvl w.heap.size (by simpa using hin); omega
    have hcr : ∀ j v, holdC 0 b j = some v → wr.cell? ⟨w.heap.size, j, none⟩ = some v := fun j v hj => hk.cell (hcY j v hj) nB
    by_cases hlt : j < m
    · have hj0 : (0 : Int) ≤ (j : Int) := by omega
      have hj1 : (j : Int) < (m : Int) := by omega
      obtain ⟨g, ea⟩ : ∃ g, a = some ⟨g, 0, none⟩ := by
        rcases hown.2 with ⟨_, h0⟩ | ⟨g, cap', cur, e, _⟩
        · omega
        · simp at e; exact ⟨g, e.1⟩
      subst ea
      have evo : vo = some g := HVo.out
      have p1 : ∃ u, wr.cell? ⟨g, j, none⟩ = some u := ⟨_, by rw [World.ownsRow.cellAt hown j (by omega), rowB_get _ hlt]⟩
      obtain ⟨u, p1⟩ := p1
      have p2 := World.ownsRow.frozenAt hown j
      have p4 : wr.cell? ⟨w.heap.size, 4, none⟩ = some (.bool b) := hcr 4 _ rfl
      have hs1 := (World.ownsRow.stored hown j (.bool b)).1
      rw [rowB_set (f' := fun i => if i < j + 1 then b else f i) (by simp) (fun i hi => by
        by_cases e : i < j
        · simp [e]; omega
        · have : ¬ i < j + 1 := by omega
          simp [e, this])] at hs1
      have HS : Hid ((wr.setCell ⟨g, j, none⟩ (.bool b)).ownsRow base 4 1 (.slice (some ⟨g, 0, none⟩) m cap) m (rowB m (fun i => if i < j + 1 then b else f i))) := hs1
      clear hs1 hown hcr
      go_wp2_with fail
      go_roundw
      case rel =>
        exact ⟨j + 1, by omega, by go_num, HS.out, hk.setCell _ (Or.inl (by simp [evo])) _⟩
      case measure => simp [intOf]; omega
    · have hj1 : (m : Int) ≤ (j : Int) := by omega
      have hKT0 : KT w w.heap.size (.bool b) 4 32 vo 1 (holdC 0 b) base m (.slice a m cap) (.slice none 0 0) [] wr := by
        refine ⟨?_, hk.cell hcY1 nB, fun j => (hk.frozen (p := ⟨w.heap.size, j, none⟩) (show w.heap.size < Y.heap.size by omega) nB).trans (hfY j), World.ownsRow_nil _ _ _ _, by simp, fun g e => ?_, (hkY.mono (by simp)).trans hk, fun j v _ hj => hcr j v hj⟩
        · have e2 : rowB m (fun i => if i < j then b else f i) = List.replicate m (.bool b) := by
            rw [← rowB_same]
            exact rowB_congr (fun i hi => by rw [if_pos (by omega)])
          rw [← e2]
          exact hown
        · rw [← HVo.out] at e
          exact ⟨fun _ => e, by have := hvl g e; omega⟩
      have hBr : w.heap.size < wr.heap.size := by have := hk.size; omega
      obtain ⟨tv0, htv0⟩ : ∃ tv0, tv0 = Value.slice none 0 0 := ⟨_, rfl⟩
      rw [← htv0] at hKT0
      have x1 := hKT0.c1
      have xf := hKT0.fr 1
      have HKT : Hid (KT w w.heap.size (.bool b) 4 32 vo 1 (holdC 0 b) base m (.slice a m cap) tv0 [] wr) := hKT0
      have hno : ∀ j, tv0.ownBlock = some j → False := fun j hj => by rw [htv0] at hj; cases hj
      clear hown hKT0 hcr htv0
      go_wp2_with (first
        | (at_builtin; refine wpList_append_own_at _ rfl _ _ 89 rfl (w.heap.size + 1) 32 iL (.slice none 0 0) 1 24 Tryz.underlying89 hiL zL0 zL1 zL2 rfl (by decide) _ 0 [] rfl (World.ownsRow.alloc HKT.out.ht _) ⟨wr.heap.size, 0, none⟩ 1 1 [.slice a m cap] rfl rfl (cell_one_new _ _ _) (by simp [Value.oneCell']) (by omega) (by omega) (by simp; omega) ?_; intro tv1 w2 hown1 hgrow1 hnil1 hat1; obtain ⟨g1, cap1, hv1⟩ := row_slice hown1 (by omega); subst hv1; have hA := (HKT.out.alloc hBr (.cells #[.slice a m cap] 32)); have hG := hA.growT (by decide) (by simp; omega) (Nat.le_refl _) hown1 hgrow1; have kk : Keeps [] wr w2 := ((Keeps.refl [] wr).alloc _).grown hgrow1 (fun j hj => (hno j hj).elim); have y1 : w2.cell? ⟨w.heap.size, 1, none⟩ = some tv0 := kk.cell x1 (by simp); have yf : w2.frozen? ⟨w.heap.size, 1, none⟩ = false := (kk.frozen (p := ⟨w.heap.size, 1, none⟩) hBr (by simp)).trans xf; have hs2 : w.heap.size < w2.heap.size := cell_lt (p := ⟨w.heap.size, 1, none⟩) y1)
        | fail)
      have HG : Hid (KT w w.heap.size (.bool b) 4 32 vo 1 (holdC 0 b) base m (.slice a m cap) (.slice (some ⟨g1, 0, none⟩) 1 cap1) ([] ++ [.slice a m cap]) (w2.setCell ⟨w.heap.size, 1, none⟩ (.slice (some ⟨g1, 0, none⟩) 1 cap1))) := hG
      clear hG hA hown1 hgrow1 hnil1 hat1 kk
      go_loopw [1, 6] (fun l x wr => ∃ (j : Nat) (tv : Value) (us : List Value) (la : Option Addr) (lc : Nat), j ≤ 8 ∧ x = .int .i64 j ∧ us.length = j + 1 ∧ l = .slice la (m + j) lc ∧ KT w w.heap.size (.bool b) 4 32 vo 1 (holdC 0 b) base (m + j) (.slice la (m + j) lc) tv us wr ∧ w.heap.size < wr.heap.size) (fun _ x _ => 8 - (intOf x).toNat)
      case atStart => exact ⟨0, _, _, a, cap, by omega, rfl, rfl, rfl, HG.out, by simpa using hs2⟩
      case round =>
        clear HG HKT
        obtain ⟨j, tv, us, la, lc, hj, rfl, hul, rfl, hKT, hBr⟩ := hrel
        by_cases hlt : j < 8
        · have hj0 : (0 : Int) ≤ (j : Int) := by omega
          have hj1 : (j : Int) < 8 := by omega
          have c4 : wr.cell? ⟨w.heap.size, 4, none⟩ = some (.bool b) := hKT.cs 4 _ (by omega) rfl
          have HKT : Hid (KT w w.heap.size (.bool b) 4 32 vo 1 (holdC 0 b) base (m + j) (.slice la (m + j) lc) tv us wr) := hKT
          obtain ⟨un, hun⟩ : ∃ un, un = us.length := ⟨_, rfl⟩
          have HUN : Hid (un = us.length) := hun
          have hunj : un = j + 1 := by omega
          have hsz0 : w.heap.size ≤ wr.heap.size := by omega
          clear hKT hun hul
          go_wp2_with (first
            | (at_builtin; obtain ⟨g2, cap2, w3, hr3, ho3, hat3⟩ := run_append_stays base 32 32 4 i4 (.bool false) 1 1 Tryz.underlying32 hi4 z40 z41 z42 rfl (by decide) (World.ownsRow.alloc HKT.out.hl (.cells #[.bool b] 4)) (a := ⟨wr.heap.size, 0, none⟩) (m := 1) (c := 1) (news := [.bool b]) rfl (cell_one_new _ _ _) (by simp [Value.oneCell']) (by omega) (by omega) (by omega) (by simp; omega); refine wpList_append_run rfl _ _ 32 rfl _ _ _ rfl rfl hr3 ?_; have hG3 := (HKT.out.alloc hBr (.cells #[.bool b] 4)).growL (by decide) (by simp; omega) (Nat.le_refl _) ho3 hat3; have z1 := hG3.c1; have zf := hG3.fr 1; have hs3 : w.heap.size < w3.heap.size := cell_lt (p := ⟨w.heap.size, 1, none⟩) z1; have HG3 : Hid (KT w w.heap.size (.bool b) 4 32 vo 1 (holdC 0 b) base (m + j + 1) (.slice (some ⟨g2, 0, none⟩) (m + j + 1) cap2) tv us w3) := hG3; clear hr3 ho3 hat3 hG3)
            | (at_builtin; refine wpList_append_own_at _ rfl _ _ 89 rfl (w.heap.size + 1) 32 iL (.slice none 0 0) 1 24 Tryz.underlying89 hiL zL0 zL1 zL2 rfl (by decide) _ us.length us rfl (World.ownsRow.alloc HG3.out.ht _) ⟨w3.heap.size, 0, none⟩ 1 1 [.slice (some ⟨g2, 0, none⟩) (m + j + 1) cap2] rfl rfl (cell_one_new _ _ _) (by simp [Value.oneCell']) (by rw [← HUN.out]; omega) (by rw [← HUN.out]; omega) (by simp; omega) ?_; intro tv4 w4 hown4 hgrow4 hnil4 hat4; obtain ⟨g4, cap4, hv4⟩ := row_slice hown4 (by omega); subst hv4; have hG4 := (HG3.out.alloc hs3 (.cells #[.slice (some ⟨g2, 0, none⟩) (m + j + 1) cap2] 32)).growT (by decide) (by simp; omega) (Nat.le_refl _) hown4 hgrow4; have nBt : w.heap.size ∉ tv.ownBlock.toList := (fun hin => by have := (HG3.out.ht.lt w.heap.size (by simpa using hin)).1; omega); have kk : Keeps tv.ownBlock.toList w3 w4 := ((Keeps.refl _ w3).alloc _).grown hgrow4 (fun j hj => Or.inl (Option.mem_toList.2 hj)); have y4 : w4.cell? ⟨w.heap.size, 1, none⟩ = some tv := kk.cell z1 nBt; have yf4 : w4.frozen? ⟨w.heap.size, 1, none⟩ = false := (kk.frozen (p := ⟨w.heap.size, 1, none⟩) hs3 nBt).trans zf; have hs4 : w.heap.size < w4.heap.size := cell_lt (p := ⟨w.heap.size, 1, none⟩) y4; have HG4 : Hid (KT w w.heap.size (.bool b) 4 32 vo 1 (holdC 0 b) base (m + j + 1) (.slice (some ⟨g2, 0, none⟩) (m + j + 1) cap2) (.slice (some ⟨g4, 0, none⟩) (us.length + 1) cap4) (us ++ [.slice (some ⟨g2, 0, none⟩) (m + j + 1) cap2]) (w4.setCell ⟨w.heap.size, 1, none⟩ (.slice (some ⟨g4, 0, none⟩) (us.length + 1) cap4))) := hG4; clear hown4 hgrow4 hnil4 hat4 hG4 kk)
            | fail)
          go_roundw
          case rel => exact ⟨j + 1, _, _, _, cap2, by omega, by go_num, by simp; rw [← HUN.out]; omega, rfl, HG4.out, by simpa using hs4⟩
          case measure => simp [intOf]; omega
        · have hj8 : j = 8 := by omega
          subst hj8
          have HKT : Hid (KT w w.heap.size (.bool b) 4 32 vo 1 (holdC 0 b) base (m + 8) (.slice la (m + 8) lc) tv us wr) := hKT
          have d1 : wr.cell? ⟨W, 1, none⟩ = some (.slice ha hn hc) := hKT.kp.cell q1 nW
          have df : wr.frozen? ⟨W, 1, none⟩ = false := (hKT.kp.frozen (p := ⟨W, 1, none⟩) hWl nW).trans hWf
          have hrow8 : wr.ownsRow 0 51 1 (.slice ha hn hc) hn (hs.map ptr) := by
            have := row_keeps HQ2.out hKT.kp (fun g e hin => by
              have h1 := HVO.out g (by simpa using hin)
              rw [HQ4.out g e] at h1
              simp at h1)
            rw [← Hhn.out] at this
            exact this
          have HR8 : Hid (wr.ownsRow 0 51 1 (.slice ha hn hc) hn (hs.map ptr)) := hrow8
          have HUL : Hid (us.length = 9) := hul
          have nW2 : W ∉ (Value.slice ha hn hc).ownBlock.toList := by simpa using q3
          clear hKT hrow8 hul
          have hn64 : hn ≤ 8796093022208 := by omega
          go_wp2_with (first
            | (at_builtin; refine wpList_append_own_at _ rfl _ _ 27 rfl 0 51 iH (.pointer none) 1 8 Tryz.underlying27 hiH zH0 zH1 zH2 rfl (by decide) _ hn (hs.map ptr) rfl (World.ownsRow.alloc HR8.out _) ⟨wr.heap.size, 0, none⟩ 1 1 [ptr w.heap.size] rfl rfl (cell_one_new _ _ _) (by simp [Value.oneCell', ptr]) (by omega) (by omega) (by simp) ?_; intro hv9 w9 hown9 hgrow9 hnil9 hat9; obtain ⟨g9, cap9, hv9e⟩ := row_slice hown9 (by omega); subst hv9e; have kk9 : Keeps (Value.slice ha hn hc).ownBlock.toList wr w9 := ((Keeps.refl _ wr).alloc _).grown hgrow9 (fun j hj => Or.inl (Option.mem_toList.2 hj)); have e1 : w9.cell? ⟨W, 1, none⟩ = some (.slice ha hn hc) := kk9.cell d1 nW2; have ef : w9.frozen? ⟨W, 1, none⟩ = false := (kk9.frozen (p := ⟨W, 1, none⟩) (show W < wr.heap.size by omega) nW2).trans df; have HOW : Hid (w9.ownsRow 0 51 1 (.slice (some ⟨g9, 0, none⟩) (hn + 1) cap9) (hn + 1) (hs.map ptr ++ [ptr w.heap.size])) := hown9; have HGR : Hid ((wr.alloc (.cells #[ptr w.heap.size] 51)).grownBy w9 (Value.slice ha hn hc).ownBlock) := hgrow9; have HAT : Hid ((Value.slice (some ⟨g9, 0, none⟩) (hn + 1) cap9).ownBlock = (Value.slice ha hn hc).ownBlock ∨ (Value.slice (some ⟨g9, 0, none⟩) (hn + 1) cap9).ownBlock = some (wr.alloc (.cells #[ptr w.heap.size] 51)).heap.size) := hat9; clear hown9 hgrow9 hnil9 hat9 kk9)
            | fail)
          go_end0
          refine ⟨rfl, ?_⟩
          have hA8 := HKT.out.alloc hBr (.cells #[ptr w.heap.size] 51)
          have hO := HOW.out
          have hQ2 := HQ2.out
          have hAT := HAT.out
          obtain ⟨V9, hV9⟩ : ∃ V9, V9 = Value.slice (some ⟨g9, 0, none⟩) (hn + 1) cap9 := ⟨_, rfl⟩
          rw [← hV9] at hO hAT ⊢
          rw [Hhn.out] at hO
          obtain ⟨own', hfin⟩ := HW.out.hold HVO.out q1 hQ2 q3 HQ4.out (by decide) (by decide) hA8 (by rw [HUL.out]; exact Nat.le_refl _) (by omega) (by simp; omega) hO HGR.out (hAT.imp id (fun e => ⟨_, e, Nat.le_refl _⟩)) (fun own' ho hcs hc1 hl => ⟨ho, .slice none 0 0, tv, 0, b, hcs 0 _ (by omega) rfl, hc1, hcs 2 _ (by omega) rfl, hcs 3 _ (by omega) rfl, hcs 4 _ (by omega) rfl, ⟨none, 0, 0, rfl, by omega, Or.inl rfl⟩, hl⟩)
          exact ⟨own', _, hfin.1, fun p u n1 n2 hc => hfin.2 p u n1 (by rw [HVo.out]; exact n2) hc⟩

end Go.Proofs.YtmgjegokkbghlaaGreat
