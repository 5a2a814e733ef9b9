/- The whole script: step, plays. -/
import Derived.Test.YtmgjegokkbghlaaGreatLawJ
namespace Go.Proofs.YtmgjegokkbghlaaGreat
open Go.RowKit Go.Maps Bdd
set_option linter.unusedVariables false
attribute [local go_sem ↓] Go.wp_at_zero Go.wp_at_succ

set_option maxRecDepth 100000 in
set_option maxHeartbeats 1000000 in
theorem step_new {w0 w : World} {own : Own} {W K : Nat} {ps : List Pr} {hs : List Nat} (hW : WAt w0 w own W ps hs K) (hK : K < 4000000000000) {m a b c : Int} {l v : Value} :
    Calls Tryz.prog 9 #[ptr W, opV 1 m a b c l v] w fun e w' => e = .returned (.bool true) ∧ (∃ own' ps' hs', ps.length ≤ ps'.length ∧ WAt w0 w' own' W ps' hs' (K + 1)) ∧ Free own w w' := by
  obtain ⟨wb, hwb⟩ : ∃ wb, wb = w.alloc (.cells (opC 1 m a b c l v) 34) := ⟨_, rfl⟩
  have hkb : Keeps [] w wb := by rw [hwb]; exact (Keeps.refl _ _).alloc _
  have hWb : WAt w0 wb (newOwn own w (0, 3)) W ps hs K := hW.keeps hkb (fun b tg hb _ e => newOwn_stays hb e)
  have H : Hid (Calls Tryz.prog 8 #[.pointer (some ⟨W, 0, none⟩), .agg #[.int .i64 1, .int .i64 m, .int .i64 a, .int .i64 b, .int .i64 c, l, v]] wb fun e w' => e = .returned (.bool true) ∧ (∃ own' ps' hs', ps.length ≤ ps'.length ∧ WAt w0 w' own' W ps' hs' (K + 1)) ∧ Free own w w') := by
    show Calls Tryz.prog 8 #[ptr W, opV 1 m a b c l v] wb _
    by_cases hab : a < 1 ∨ 8 < a ∨ b < 0 ∨ 2000 < b
    · refine (begin_bad hWb hab).mono ?_
      rintro e w' ⟨rfl, hk⟩
      exact ⟨rfl, ⟨newOwn own w (0, 3), ps, hs, Nat.le_refl _, (hWb.keeps hk (fun b tg hb _ e => e)).wider (Nat.le_succ K)⟩, Free.keeps (hkb.trans hk)⟩
    · obtain ⟨n, rfl⟩ : ∃ n : Nat, a = (n : Int) := ⟨a.toNat, by omega⟩
      refine (begin_good hWb (by omega) (n := n) (by omega) (by omega) (by omega) (by omega)).mono ?_
      rintro e w' ⟨rfl, own', x, _, hh, hf⟩
      exact ⟨rfl, ⟨own', _, hs, by simp, hh⟩, fun p u h0 hc => hf p u (newOwn_stays (cell_lt hc) h0) (hkb.cell hc (by simp))⟩
  clear hW hWb hkb
  show Calls Tryz.prog 9 #[.pointer (some ⟨W, 0, none⟩), .agg #[.int .i64 1, .int .i64 m, .int .i64 a, .int .i64 b, .int .i64 c, l, v]] w _
  unfold opC at hwb
  go_enter Tryz.func9, Tryz.ntmps9
  go_wp2_with fail
  rw [← hwb]
  clear hwb
  refine H.out.mono ?_
  rintro e w1 ⟨rfl, hh⟩
  have HH : Hid ((∃ own' ps' hs', ps.length ≤ ps'.length ∧ WAt w0 w1 own' W ps' hs' (K + 1)) ∧ Free own w w1) := hh
  clear hh
  go_wp2_with fail
  go_ret
  exact ⟨rfl, HH.out⟩

theorem step_any {w0 w : World} {own : Own} {W K : Nat} {ps : List Pr} {hs : List Nat} (hW : WAt w0 w own W ps hs K) (hK : K < 4000000000000) (hps : 0 < ps.length) {k m a b c : Int} {l : Value} {va : Option Addr} {vn vc : Nat} {f : Nat → Bool} (hk11 : k ≤ 11) (hkf : Fits k) (hm : Fits m) (ha : Fits a) (hb : Fits b) (hc : Fits c) (hvn : vn ≤ 140737488351232) (hv0 : TruthsIn w0 va vn f) :
    Calls Tryz.prog 9 #[ptr W, opV k m a b c l (.slice va vn vc)] w fun e w' => e = .returned (.bool true) ∧ (∃ own' ps' hs', ps.length ≤ ps'.length ∧ WAt w0 w' own' W ps' hs' (K + 1)) ∧ Free own w w' := by
  by_cases h1 : k = 1
  · subst h1
    exact step_new hW hK
  · refine (step_old hW hK hps h1 hk11 hkf hm ha hb hc hvn hv0).mono ?_
    rintro e w' ⟨rfl, ⟨own', ps', hs', hl, hh⟩, hf⟩
    exact ⟨rfl, ⟨own', ps', hs', by omega, hh⟩, hf⟩

/-- a call of the script, in memory -/
def OpIn (w : World) (sb so : Nat) : Prop := ∃ (k m a b c : Int) (la : Option Addr) (ln lc : Nat) (va : Option Addr) (vn vc : Nat) (f : Nat → Bool), w.cell? ⟨sb, so, none⟩ = some (.int .i64 k) ∧ w.cell? ⟨sb, so + 1, none⟩ = some (.int .i64 m) ∧ w.cell? ⟨sb, so + 2, none⟩ = some (.int .i64 a) ∧ w.cell? ⟨sb, so + 3, none⟩ = some (.int .i64 b) ∧ w.cell? ⟨sb, so + 4, none⟩ = some (.int .i64 c) ∧ w.cell? ⟨sb, so + 5, none⟩ = some (.slice la ln lc) ∧ w.cell? ⟨sb, so + 6, none⟩ = some (.slice va vn vc) ∧ Fits k ∧ Fits m ∧ Fits a ∧ Fits b ∧ Fits c ∧ vn ≤ 140737488351232 ∧ TruthsIn w va vn f
/-- the script, in memory -/
def ScriptIn (w : World) (sa : Option Addr) (n : Nat) : Prop := n = 0 ∨ ∃ sb so, sa = some ⟨sb, so, none⟩ ∧ ∀ j, j < n → OpIn w sb (so + j * 7)

/-- the law's world at the start -/
theorem WX.start (w : World) : WAt w (w.alloc (.cells #[.slice none 0 0, .slice none 0 0, .bool false] 29)) (fun b => if b < w.heap.size then (0, 1) else (1, 0)) w.heap.size [] [] 0 := by
  refine ⟨(Keeps.refl _ _).alloc _, fun b hb => by simp [hb], by simp, fun j => World.frozen?_alloc_at _ _ _ _ rfl, ⟨.slice none 0 0, by simp, World.ownsRow_nil _ _ _ _, by simp [Value.ownBlock], fun g e => by cases e⟩, ⟨.slice none 0 0, by simp, World.ownsRow_nil _ _ _ _, by simp [Value.ownBlock], fun g e => by cases e⟩, by simp, fun i x _ hx => by simp at hx, fun j h hh => by simp at hh, by simp, by simp⟩

set_option maxRecDepth 100000 in
set_option maxHeartbeats 4000000 in
theorem plays_any {w : World} {sa : Option Addr} {n cap : Nat} {lo hi : Int} (hn : n ≤ 1600000000000) (hS : ScriptIn w sa n) (hlo : Fits lo) (hhi : Fits hi) :
    Calls Tryz.prog 7 #[.slice sa n cap, .int .i64 lo, .int .i64 hi, .int .i64 11] w fun e w' => e = .returned (.bool true) ∧ Keeps [] w w' := by
  obtain ⟨W, hW⟩ : ∃ W, W = w.heap.size := ⟨_, rfl⟩
  obtain ⟨wa, hwa⟩ : ∃ wa, wa = w.alloc (.cells #[.slice none 0 0, .slice none 0 0, .bool false] 29) := ⟨_, rfl⟩
  obtain ⟨owna, hst⟩ : ∃ owna, WAt w wa owna W [] [] 0 := ⟨_, by rw [hW, hwa]; exact WX.start w⟩
  have f0 : Fits 0 := by unfold Fits; omega
  have f1 : Fits 1 := by unfold Fits; omega
  have f3 : Fits 3 := by unfold Fits; omega
  have hnil : TruthsIn w none 0 (fun _ => false) := Or.inl rfl
  have H1 : Hid (Calls Tryz.prog 8 #[.pointer (some ⟨W, 0, none⟩), .agg #[.int .i64 0, .int .i64 0, .int .i64 3, .int .i64 50, .int .i64 0, .slice none 0 0, .slice none 0 0]] wa fun e w' => e = .returned (.bool true) ∧ ∃ own' ps', ps'.length = 1 ∧ WAt w w' own' W ps' [] 1) := by
    refine (begin_good hst (by omega) (n := 3) (by omega) (by omega) (by omega) (by omega)).mono ?_
    rintro e w' ⟨rfl, own', x, _, hh, _⟩
    exact ⟨rfl, own', _, by simp, hh⟩
  have H2 : Hid (∀ (wx : World) (ownx : Own) (ps : List Pr) (hs : List Nat) (K : Nat) (a : Int), ps.length = 1 → K ≤ 2 → Fits a → WAt w wx ownx W ps hs K → Calls Tryz.prog 9 #[.pointer (some ⟨W, 0, none⟩), .agg #[.int .i64 3, .int .i64 0, .int .i64 a, .int .i64 0, .int .i64 0, .slice none 0 0, .slice none 0 0]] wx fun e w' => e = .returned (.bool true) ∧ ∃ own' ps' hs', ps'.length = 1 ∧ WAt w w' own' W ps' hs' (K + 1)) := by
    intro wx ownx ps hs K a hl hK hfa hWx
    refine (step_old hWx (by omega) (by omega) (k := 3) (m := 0) (a := a) (b := 0) (c := 0) (l := .slice none 0 0) (va := none) (vn := 0) (vc := 0) (by omega) (by omega) f3 f0 hfa f0 f0 (by omega) hnil).mono ?_
    rintro e w' ⟨rfl, ⟨own', ps', hs', hl', hh⟩, _⟩
    exact ⟨rfl, own', ps', hs', by omega, hh⟩
  have H3 : Hid (∀ (wx : World) (ownx : Own) (ps : List Pr) (hs : List Nat) (K : Nat), WAt w wx ownx W ps hs K → Calls Tryz.prog 8 #[.pointer (some ⟨W, 0, none⟩), .agg #[.int .i64 0, .int .i64 0, .int .i64 0, .int .i64 50, .int .i64 0, .slice none 0 0, .slice none 0 0]] wx fun e w' => e = .returned (.bool true) ∧ WAt w w' ownx W ps hs K) := by
    intro wx ownx ps hs K hWx
    refine (begin_bad hWx (Or.inl (by omega))).mono ?_
    rintro e w' ⟨rfl, hk⟩
    exact ⟨rfl, hWx.keeps hk (fun b tg hb _ e => e)⟩
  have len1 : ∀ (wx : World) (ownx : Own) (ps : List Pr) (hs : List Nat) (K : Nat), ps.length = 1 → WAt w wx ownx W ps hs K → ∃ g cap, wx.cell? ⟨W, 0, none⟩ = some (.slice (some ⟨g, 0, none⟩) 1 cap) := fun wx ownx ps hs K hl hWx => by
    obtain ⟨pv, q1, q2, _⟩ := hWx.c0
    rw [hl] at q2
    obtain ⟨g, cap, rfl⟩ := row_slice q2 (by omega)
    exact ⟨g, cap, q1⟩
  have HS : Hid (ScriptIn w sa n) := hS
  have HL1 : Hid (∀ (wx : World) (ownx : Own) (ps : List Pr) (hs : List Nat) (K : Nat), ps.length = 1 → WAt w wx ownx W ps hs K → ∃ g cap, wx.cell? ⟨W, 0, none⟩ = some (.slice (some ⟨g, 0, none⟩) 1 cap)) := len1
  have hn' : (n : Int) ≤ 1600000000000 := by omega
  unfold Fits at hlo hhi
  clear hst hS hnil len1
  go_enter Tryz.func7, Tryz.ntmps7
  go_wp2_with fail
  rw [← hwa, ← hW]
  clear hwa hW
  refine H1.out.mono ?_
  rintro e w1 ⟨rfl, own1, ps1, hl1, hW1⟩
  obtain ⟨g1, cap1, x1⟩ := HL1.out _ _ _ _ _ hl1 hW1
  have HW1 : Hid (ps1.length = 1 ∧ WAt w w1 own1 W ps1 [] 1) := ⟨hl1, hW1⟩
  clear hl1 hW1
  go_wp2_with fail
  refine (H2.out w1 own1 ps1 [] 1 0 HW1.out.1 (by omega) f0 HW1.out.2).mono ?_
  rintro e w2 ⟨rfl, own2, ps2, hs2, hl2, hW2⟩
  have HW2 : Hid (ps2.length = 1 ∧ WAt w w2 own2 W ps2 hs2 2) := ⟨hl2, hW2⟩
  clear hl2 hW2 x1
  go_wp2_with fail
  refine (H2.out w2 own2 ps2 hs2 2 1 HW2.out.1 (by omega) f1 HW2.out.2).mono ?_
  rintro e w3 ⟨rfl, own3, ps3, hs3, hl3, hW3⟩
  have HW3 : Hid (ps3.length = 1 ∧ WAt w w3 own3 W ps3 hs3 3) := ⟨hl3, hW3⟩
  clear hl3 hW3
  go_wp2_with fail
  refine (H3.out w3 own3 ps3 hs3 3 HW3.out.2).mono ?_
  rintro e w4 ⟨rfl, hW4⟩
  obtain ⟨g4, cap4, x4⟩ := HL1.out _ _ _ _ _ HW3.out.1 hW4
  have HW4 : Hid (WAt w w4 own3 W ps3 hs3 3) := hW4
  clear hW4
  go_wp2_with fail
  clear x4
  go_loopw [10, 14] (fun ok x wr => ∃ (j : Nat) (b : Bool) (own : Own) (ps : List Pr) (hs : List Nat), j ≤ n ∧ ok = .bool b ∧ x = .int .i64 j ∧ 0 < ps.length ∧ WAt w wr own W ps hs (3 + j)) (fun _ x _ => n - (intOf x).toNat)
  case atStart => exact ⟨0, true, own3, ps3, hs3, by omega, rfl, rfl, by rw [HW3.out.1]; omega, HW4.out⟩
  case round =>
    clear HW1 HW2 HW3 HW4 H1 H2 H3 HL1
    obtain ⟨j, b, own, ps, hs, hj, rfl, rfl, hps, hWr⟩ := hrel
    have HWR : Hid (WAt w wr own W ps hs (3 + j)) := hWr
    clear hWr
    by_cases hlt : j < n
    · have hj0 : (0 : Int) ≤ (j : Int) := by omega
      have hj1 : (j : Int) < (n : Int) := by omega
      obtain ⟨sb, so, ea, hops⟩ : ∃ sb so, sa = some ⟨sb, so, none⟩ ∧ ∀ j, j < n → OpIn w sb (so + j * 7) := by
        rcases HS.out with h | h
        · omega
        · exact h
      subst ea
      obtain ⟨k, m, a, bb, c, la, ln, lc, va, vn, vc, f, c0, c1, c2, c3, c4, c5, c6, fk, fm, fa, fb, fc, hvn, htr⟩ := hops j hlt
      have low := HWR.out.low
      have d0 := low.cell c0 (by simp)
      have d1 := low.cell c1 (by simp)
      have d2 := low.cell c2 (by simp)
      have d3 := low.cell c3 (by simp)
      have d4 := low.cell c4 (by simp)
      have d5 := low.cell c5 (by simp)
      have d6 := low.cell c6 (by simp)
      have hsb : sb < wr.heap.size := cell_lt d0
      have HTR : Hid (TruthsIn w va vn f) := htr
      have HFK : Hid (Fits k ∧ Fits m ∧ Fits a ∧ Fits bb ∧ Fits c) := ⟨fk, fm, fa, fb, fc⟩
      clear hops c0 c1 c2 c3 c4 c5 c6 htr low
      unfold Fits at fk fm fa fb fc
      by_cases hkm : 11 < k
      · go_wp2_with fail
        go_roundw
        case rel => exact ⟨j + 1, b, own, ps, hs, by omega, rfl, by go_num, hps, (HWR.out.keeps ((Keeps.refl _ _).alloc _) (fun b tg hb _ e => e)).wider (by omega)⟩
        case measure => simp [intOf]; omega
      · have hk11 : k ≤ 11 := by omega
        obtain ⟨wb, hwb⟩ : ∃ wb, wb = wr.alloc (.cells #[.int .i64 k, .int .i64 m, .int .i64 a, .int .i64 bb, .int .i64 c, .slice la ln lc, .slice va vn vc] 34) := ⟨_, rfl⟩
        have hkb : Keeps [] wr wb := by rw [hwb]; exact (Keeps.refl _ _).alloc _
        have hb0 : wb.cell? ⟨wr.heap.size, 0, none⟩ = some (.int .i64 k) := by rw [hwb]; simp
        have hst := step_any (HWR.out.keeps hkb (own' := newOwn own wr (0, 3)) (fun b tg hb _ e => newOwn_stays hb e)) (by omega) hps (l := .slice la ln lc) (vc := vc) hk11 HFK.out.1 HFK.out.2.1 HFK.out.2.2.1 HFK.out.2.2.2.1 HFK.out.2.2.2.2 hvn HTR.out
        have HST : Hid (Calls Tryz.prog 9 #[.pointer (some ⟨W, 0, none⟩), .agg #[.int .i64 k, .int .i64 m, .int .i64 a, .int .i64 bb, .int .i64 c, .slice la ln lc, .slice va vn vc]] wb fun e w' => e = .returned (.bool true) ∧ (∃ own' ps' hs', ps.length ≤ ps'.length ∧ WAt w w' own' W ps' hs' (3 + j + 1)) ∧ Free (newOwn own wr (0, 3)) wb w') := hst
        clear hst
        go_wp2_with fail
        rw [← hwb]
        clear hwb
        refine HST.out.mono ?_
        rintro e w1 ⟨rfl, ⟨own', ps', hs', hl, hh⟩, hfr⟩
        have e0 : w1.cell? ⟨wr.heap.size, 0, none⟩ = some (.int .i64 k) := hfr _ _ (newOwn_new (Nat.le_refl _)) hb0
        have HH : Hid (WAt w w1 own' W ps' hs' (3 + j + 1)) := hh
        have HLK : Hid (Calls Tryz.prog 10 #[.pointer (some ⟨W, 0, none⟩)] w1 fun e w' => e = .returned (.bool true) ∧ Keeps [] w1 w') := looks_any hh (by omega)
        clear hh hfr
        by_cases hk1 : k = 1
        · have d1 : (k == 1) = true := by simp [hk1]
          clear hk1
          go_wp2_with fail
          refine HLK.out.mono ?_
          rintro e w2 ⟨rfl, hk2⟩
          go_wp2_with fail
          go_roundw
          case rel => exact ⟨j + 1, true, own', ps', hs', by omega, rfl, by go_num, by omega, (HH.out.keeps hk2 (fun b tg hb _ e => e)).wider (by omega)⟩
          case measure => simp [intOf]; omega
        · have d1 : (k == 1) = false := by simpa using hk1
          clear hk1
          by_cases hlo2 : lo ≤ k
          · have dlo : decide (lo ≤ k) = true := by simpa using hlo2
            go_wp2_with fail
            refine HLK.out.mono ?_
            rintro e w2 ⟨rfl, hk2⟩
            go_wp2_with fail
            go_roundw
            case rel => exact ⟨j + 1, true, own', ps', hs', by omega, rfl, by go_num, by omega, (HH.out.keeps hk2 (fun b tg hb _ e => e)).wider (by omega)⟩
            case measure => simp [intOf]; omega
          · have dlo : decide (lo ≤ k) = false := by simpa using hlo2
            clear hlo2
            go_wp2_with fail
            refine HLK.out.mono ?_
            rintro e w2 ⟨rfl, hk2⟩
            go_wp2_with fail
            go_roundw
            case rel => exact ⟨j + 1, true, own', ps', hs', by omega, rfl, by go_num, by omega, (HH.out.keeps hk2 (fun b tg hb _ e => e)).wider (by omega)⟩
            case measure => simp [intOf]; omega
    · have hj1 : (n : Int) ≤ (j : Int) := by omega
      go_wp2_with fail
      go_ret
      exact ⟨rfl, HWR.out.low⟩

end Go.Proofs.YtmgjegokkbghlaaGreat
