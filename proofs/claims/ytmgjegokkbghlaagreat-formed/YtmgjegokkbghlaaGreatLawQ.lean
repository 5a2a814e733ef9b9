/- The whole script, by what one call comes to; the script as it comes in. -/
import Derived.Test.YtmgjegokkbghlaaGreatLawP
import Derived.Test.YtmgjegokkbghlaaGreatLawL
namespace Go.Proofs.YtmgjegokkbghlaaGreat
open Go.RowKit Go.Maps Bdd
set_option linter.unusedVariables false
attribute [local go_sem ↓] Go.wp_at_zero Go.wp_at_succ

/-- what one call comes to, of the kinds up to one -/
def StepsTo (most : Int) : Prop := ∀ (w0 w : World) (own : Own) (W K : Nat) (ps : List Pr) (hs : List Nat) (k m a b c : Int) (la : Option Addr) (ln lc : Nat) (gl : Nat → Int) (va : Option Addr) (vn vc : Nat) (f : Nat → Bool), WAt w0 w own W ps hs K → K < 3999999999999 → 0 < ps.length → k ≤ most → Fits k → Fits m → Fits a → Fits b → Fits c → vn ≤ 140737488351232 → TruthsIn w0 va vn f → ln ≤ 17592186043904 → IntsAt w0 la ln gl →
  Calls Tryz.prog 9 #[.pointer (some ⟨W, 0, none⟩), .agg #[.int .i64 k, .int .i64 m, .int .i64 a, .int .i64 b, .int .i64 c, .slice la ln lc, .slice va vn vc]] w fun e w' => e = .returned (.bool true) ∧ (∃ own' ps' hs', ps.length ≤ ps'.length ∧ WAt w0 w' own' W ps' hs' (K + 2)) ∧ Free own w w'
theorem steps16 : StepsTo 16 := by
  intro w0 w own W K ps hs k m a b c la ln lc gl va vn vc f hW hK hps hk fk fm fa fb fc hvn hv hln hl
  by_cases h1 : k = 1
  · subst h1
    refine (step_new (l := .slice la ln lc) (v := .slice va vn vc) hW (by omega)).mono ?_
    rintro e w' ⟨rfl, ⟨own', ps', hs', hl, hh⟩, hf⟩
    exact ⟨rfl, ⟨own', ps', hs', hl, hh.wider (by omega)⟩, hf⟩
  · refine (step_old2 hW (by omega) hps h1 hk fk fm fa fb fc hvn hv hln hl).mono ?_
    rintro e w' ⟨rfl, ⟨own', ps', hs', hl, hh⟩, hf⟩
    exact ⟨rfl, ⟨own', ps', hs', by omega, hh⟩, hf⟩

/-- a call of the script, in memory -/
def OpIn2 (w : World) (sb so : Nat) : Prop := ∃ (k m a b c : Int) (la : Option Addr) (ln lc : Nat) (gl : Nat → Int) (va : Option Addr) (vn vc : Nat) (f : Nat → Bool), w.cell? ⟨sb, so, none⟩ = some (.int .i64 k) ∧ w.cell? ⟨sb, so + 1, none⟩ = some (.int .i64 m) ∧ w.cell? ⟨sb, so + 2, none⟩ = some (.int .i64 a) ∧ w.cell? ⟨sb, so + 3, none⟩ = some (.int .i64 b) ∧ w.cell? ⟨sb, so + 4, none⟩ = some (.int .i64 c) ∧ w.cell? ⟨sb, so + 5, none⟩ = some (.slice la ln lc) ∧ w.cell? ⟨sb, so + 6, none⟩ = some (.slice va vn vc) ∧ Fits k ∧ Fits m ∧ Fits a ∧ Fits b ∧ Fits c ∧ vn ≤ 140737488351232 ∧ TruthsIn w va vn f ∧ ln ≤ 17592186043904 ∧ IntsAt w la ln gl
/-- the script, in memory -/
def ScriptIn2 (w : World) (sa : Option Addr) (n : Nat) : Prop := n = 0 ∨ ∃ sb so, sa = some ⟨sb, so, none⟩ ∧ ∀ j, j < n → OpIn2 w sb (so + j * 7)

set_option maxRecDepth 100000 in
set_option maxHeartbeats 4000000 in
theorem plays_gen {most : Int} (hmost : Fits most) (HSTEP : StepsTo most) {w : World} {sa : Option Addr} {n cap : Nat} {lo hi : Int} (hn : n ≤ 1600000000000) (hS : ScriptIn2 w sa n) (hlo : Fits lo) (hhi : Fits hi) :
    Calls Tryz.prog 7 #[.slice sa n cap, .int .i64 lo, .int .i64 hi, .int .i64 most] w fun e w' => e = .returned (.bool true) ∧ Keeps [] w w' := by
  obtain ⟨W, hW⟩ : ∃ W, W = w.heap.size := ⟨_, rfl⟩
  obtain ⟨wa, hwa⟩ : ∃ wa, wa = w.alloc (.cells #[.slice none 0 0, .slice none 0 0, .bool false] 29) := ⟨_, rfl⟩
  obtain ⟨owna, hst⟩ : ∃ owna, WAt w wa owna W [] [] 0 := ⟨_, by rw [hW, hwa]; exact WX.start w⟩
  have f0 : Fits 0 := by unfold Fits; omega
  have f1 : Fits 1 := by unfold Fits; omega
  have f3 : Fits 3 := by unfold Fits; omega
  have hnil : TruthsIn w none 0 (fun _ => false) := Or.inl rfl
  have H1 : Hid (Calls Tryz.prog 8 #[.pointer (some ⟨W, 0, none⟩), .agg #[.int .i64 0, .int .i64 0, .int .i64 3, .int .i64 50, .int .i64 0, .slice none 0 0, .slice none 0 0]] wa fun e w' => e = .returned (.bool true) ∧ ∃ own' ps', ps'.length = 1 ∧ WAt w w' own' W ps' [] 1) := by
    refine (begin_good hst (by omega) (n := 3) (by omega) (by omega) (by omega) (by omega)).mono ?_
    rintro e w' ⟨rfl, own', x, _, hh, _⟩
    exact ⟨rfl, own', _, by simp, hh⟩
  have H2 : Hid (∀ (wx : World) (ownx : Own) (ps : List Pr) (hs : List Nat) (K : Nat) (a : Int), ps.length = 1 → K ≤ 2 → Fits a → WAt w wx ownx W ps hs K → Calls Tryz.prog 9 #[.pointer (some ⟨W, 0, none⟩), .agg #[.int .i64 3, .int .i64 0, .int .i64 a, .int .i64 0, .int .i64 0, .slice none 0 0, .slice none 0 0]] wx fun e w' => e = .returned (.bool true) ∧ ∃ own' ps' hs', ps'.length = 1 ∧ WAt w w' own' W ps' hs' (K + 1)) := by
    intro wx ownx ps hs K a hl hK hfa hWx
    refine (step_old hWx (by omega) (by omega) (k := 3) (m := 0) (a := a) (b := 0) (c := 0) (l := .slice none 0 0) (va := none) (vn := 0) (vc := 0) (by omega) (by omega) f3 f0 hfa f0 f0 (by omega) hnil).mono ?_
    rintro e w' ⟨rfl, ⟨own', ps', hs', hl', hh⟩, _⟩
    exact ⟨rfl, own', ps', hs', by omega, hh⟩
  have H3 : Hid (∀ (wx : World) (ownx : Own) (ps : List Pr) (hs : List Nat) (K : Nat), WAt w wx ownx W ps hs K → Calls Tryz.prog 8 #[.pointer (some ⟨W, 0, none⟩), .agg #[.int .i64 0, .int .i64 0, .int .i64 0, .int .i64 50, .int .i64 0, .slice none 0 0, .slice none 0 0]] wx fun e w' => e = .returned (.bool true) ∧ WAt w w' ownx W ps hs K) := by
    intro wx ownx ps hs K hWx
    refine (begin_bad hWx (Or.inl (by omega))).mono ?_
    rintro e w' ⟨rfl, hk⟩
    exact ⟨rfl, hWx.keeps hk (fun b tg hb _ e => e)⟩
  have len1 : ∀ (wx : World) (ownx : Own) (ps : List Pr) (hs : List Nat) (K : Nat), ps.length = 1 → WAt w wx ownx W ps hs K → ∃ g cap, wx.cell? ⟨W, 0, none⟩ = some (.slice (some ⟨g, 0, none⟩) 1 cap) := fun wx ownx ps hs K hl hWx => by
    obtain ⟨pv, q1, q2, _⟩ := hWx.c0
    rw [hl] at q2
    obtain ⟨g, cap, rfl⟩ := row_slice q2 (by omega)
    exact ⟨g, cap, q1⟩
  have HS : Hid (ScriptIn2 w sa n) := hS
  have HL1 : Hid (∀ (wx : World) (ownx : Own) (ps : List Pr) (hs : List Nat) (K : Nat), ps.length = 1 → WAt w wx ownx W ps hs K → ∃ g cap, wx.cell? ⟨W, 0, none⟩ = some (.slice (some ⟨g, 0, none⟩) 1 cap)) := len1
  have hn' : (n : Int) ≤ 1600000000000 := by omega
  unfold Fits at hlo hhi hmost
  have HST0 : Hid (StepsTo most) := HSTEP
  clear hst hS hnil len1 HSTEP
  go_enter Tryz.func7, Tryz.ntmps7
  go_wp2_with fail
  rw [← hwa, ← hW]
  clear hwa hW
  refine H1.out.mono ?_
  rintro e w1 ⟨rfl, own1, ps1, hl1, hW1⟩
  obtain ⟨g1, cap1, x1⟩ := HL1.out _ _ _ _ _ hl1 hW1
  have HW1 : Hid (ps1.length = 1 ∧ WAt w w1 own1 W ps1 [] 1) := ⟨hl1, hW1⟩
  clear hl1 hW1
  go_wp2_with fail
  refine (H2.out w1 own1 ps1 [] 1 0 HW1.out.1 (by omega) f0 HW1.out.2).mono ?_
  rintro e w2 ⟨rfl, own2, ps2, hs2, hl2, hW2⟩
  have HW2 : Hid (ps2.length = 1 ∧ WAt w w2 own2 W ps2 hs2 2) := ⟨hl2, hW2⟩
  clear hl2 hW2 x1
  go_wp2_with fail
  refine (H2.out w2 own2 ps2 hs2 2 1 HW2.out.1 (by omega) f1 HW2.out.2).mono ?_
  rintro e w3 ⟨rfl, own3, ps3, hs3, hl3, hW3⟩
  have HW3 : Hid (ps3.length = 1 ∧ WAt w w3 own3 W ps3 hs3 3) := ⟨hl3, hW3⟩
  clear hl3 hW3
  go_wp2_with fail
  refine (H3.out w3 own3 ps3 hs3 3 HW3.out.2).mono ?_
  rintro e w4 ⟨rfl, hW4⟩
  obtain ⟨g4, cap4, x4⟩ := HL1.out _ _ _ _ _ HW3.out.1 hW4
  have HW4 : Hid (WAt w w4 own3 W ps3 hs3 3) := hW4
  clear hW4
  go_wp2_with fail
  clear x4
  go_loopw [10, 14] (fun ok x wr => ∃ (j : Nat) (b : Bool) (own : Own) (ps : List Pr) (hs : List Nat), j ≤ n ∧ ok = .bool b ∧ x = .int .i64 j ∧ 0 < ps.length ∧ WAt w wr own W ps hs (3 + 2 * j)) (fun _ x _ => n - (intOf x).toNat)
  case atStart => exact ⟨0, true, own3, ps3, hs3, by omega, rfl, rfl, by rw [HW3.out.1]; omega, HW4.out⟩
  case round =>
    clear HW1 HW2 HW3 HW4 H1 H2 H3 HL1
    obtain ⟨j, b, own, ps, hs, hj, rfl, rfl, hps, hWr⟩ := hrel
    have HWR : Hid (WAt w wr own W ps hs (3 + 2 * j)) := hWr
    clear hWr
    by_cases hlt : j < n
    · have hj0 : (0 : Int) ≤ (j : Int) := by omega
      have hj1 : (j : Int) < (n : Int) := by omega
      obtain ⟨sb, so, ea, hops⟩ : ∃ sb so, sa = some ⟨sb, so, none⟩ ∧ ∀ j, j < n → OpIn2 w sb (so + j * 7) := by
        rcases HS.out with h | h
        · omega
        · exact h
      subst ea
      obtain ⟨k, m, a, bb, c, la, ln, lc, gl, va, vn, vc, f, c0, c1, c2, c3, c4, c5, c6, fk, fm, fa, fb, fc, hvn, htr, hln, hil⟩ := hops j hlt
      have low := HWR.out.low
      have d0 := low.cell c0 (by simp)
      have d1 := low.cell c1 (by simp)
      have d2 := low.cell c2 (by simp)
      have d3 := low.cell c3 (by simp)
      have d4 := low.cell c4 (by simp)
      have d5 := low.cell c5 (by simp)
      have d6 := low.cell c6 (by simp)
      have hsb : sb < wr.heap.size := cell_lt d0
      have HTR : Hid (TruthsIn w va vn f) := htr
      have HIL : Hid (IntsAt w la ln gl) := hil
      have HFK : Hid (Fits k ∧ Fits m ∧ Fits a ∧ Fits bb ∧ Fits c) := ⟨fk, fm, fa, fb, fc⟩
      clear hops c0 c1 c2 c3 c4 c5 c6 htr hil low
      unfold Fits at fk fm fa fb fc
      by_cases hkm : most < k
      · go_wp2_with fail
        go_roundw
        case rel => exact ⟨j + 1, b, own, ps, hs, by omega, rfl, by go_num, hps, (HWR.out.keeps ((Keeps.refl _ _).alloc _) (fun b tg hb _ e => e)).wider (by omega)⟩
        case measure => simp [intOf]; omega
      · have hk11 : k ≤ most := by omega
        obtain ⟨wb, hwb⟩ : ∃ wb, wb = wr.alloc (.cells #[.int .i64 k, .int .i64 m, .int .i64 a, .int .i64 bb, .int .i64 c, .slice la ln lc, .slice va vn vc] 34) := ⟨_, rfl⟩
        have hkb : Keeps [] wr wb := by rw [hwb]; exact (Keeps.refl _ _).alloc _
        have hb0 : wb.cell? ⟨wr.heap.size, 0, none⟩ = some (.int .i64 k) := by rw [hwb]; simp
        have hst := HST0.out w wb (newOwn own wr (0, 3)) W (3 + 2 * j) ps hs k m a bb c la ln lc gl va vn vc f (HWR.out.keeps hkb (fun b tg hb _ e => newOwn_stays hb e)) (by omega) hps hk11 HFK.out.1 HFK.out.2.1 HFK.out.2.2.1 HFK.out.2.2.2.1 HFK.out.2.2.2.2 hvn HTR.out hln HIL.out
        have HST : Hid (Calls Tryz.prog 9 #[.pointer (some ⟨W, 0, none⟩), .agg #[.int .i64 k, .int .i64 m, .int .i64 a, .int .i64 bb, .int .i64 c, .slice la ln lc, .slice va vn vc]] wb fun e w' => e = .returned (.bool true) ∧ (∃ own' ps' hs', ps.length ≤ ps'.length ∧ WAt w w' own' W ps' hs' (3 + 2 * j + 2)) ∧ Free (newOwn own wr (0, 3)) wb w') := hst
        clear hst
        go_wp2_with fail
        rw [← hwb]
        clear hwb
        refine HST.out.mono ?_
        rintro e w1 ⟨rfl, ⟨own', ps', hs', hl, hh⟩, hfr⟩
        have e0 : w1.cell? ⟨wr.heap.size, 0, none⟩ = some (.int .i64 k) := hfr _ _ (newOwn_new (Nat.le_refl _)) hb0
        have HH : Hid (WAt w w1 own' W ps' hs' (3 + 2 * j + 2)) := hh
        have HLK : Hid (Calls Tryz.prog 10 #[.pointer (some ⟨W, 0, none⟩)] w1 fun e w' => e = .returned (.bool true) ∧ Keeps [] w1 w') := looks_any hh (by omega)
        clear hh hfr
        by_cases hk1 : k = 1
        · have d1 : (k == 1) = true := by simp [hk1]
          clear hk1
          go_wp2_with fail
          refine HLK.out.mono ?_
          rintro e w2 ⟨rfl, hk2⟩
          go_wp2_with fail
          go_roundw
          case rel => exact ⟨j + 1, true, own', ps', hs', by omega, rfl, by go_num, by omega, (HH.out.keeps hk2 (fun b tg hb _ e => e)).wider (by omega)⟩
          case measure => simp [intOf]; omega
        · have d1 : (k == 1) = false := by simpa using hk1
          clear hk1
          by_cases hlo2 : lo ≤ k
          · have dlo : decide (lo ≤ k) = true := by simpa using hlo2
            go_wp2_with fail
            refine HLK.out.mono ?_
            rintro e w2 ⟨rfl, hk2⟩
            go_wp2_with fail
            go_roundw
            case rel => exact ⟨j + 1, true, own', ps', hs', by omega, rfl, by go_num, by omega, (HH.out.keeps hk2 (fun b tg hb _ e => e)).wider (by omega)⟩
            case measure => simp [intOf]; omega
          · have dlo : decide (lo ≤ k) = false := by simpa using hlo2
            clear hlo2
            go_wp2_with fail
            refine HLK.out.mono ?_
            rintro e w2 ⟨rfl, hk2⟩
            go_wp2_with fail
            go_roundw
            case rel => exact ⟨j + 1, true, own', ps', hs', by omega, rfl, by go_num, by omega, (HH.out.keeps hk2 (fun b tg hb _ e => e)).wider (by omega)⟩
            case measure => simp [intOf]; omega
    · have hj1 : (n : Int) ≤ (j : Int) := by omega
      go_wp2_with fail
      go_ret
      exact ⟨rfl, HWR.out.low⟩


section
variable {H : Type} {enc : TypeId × Value → H} {W : World}
theorem bytesInt : Tryz.prog.bytesOf 3 = 8 := by kernel_rfl
/-- a list of numbers, as it comes in -/
theorem open_nums {fuel : Nat} {c : Value} {x : DataW H × List MemPlace} (h : DataW.trod enc Tryz.prog W 0 (fun _ => true) true fuel 31 [c] = some x) (hw : ∀ n ∈ x.1.weights Tryz.prog 31, n ≤ reachBytes) :
    ∃ va vn vc f, c = .slice va vn vc ∧ vn ≤ 17592186043904 ∧ IntsAt W va vn f := by
  rcases DataW.trod_slice Tryz.underlying31 h with ⟨hcs, hx⟩ | ⟨ad, len, cap, elems, rest, n, _, hcs, hx, hb, hlc, hcm, hel, hcells, hsp, _⟩
  · simp at hcs
    exact ⟨none, 0, 0, fun _ => 0, hcs, by omega, Or.inl rfl⟩
  · simp at hcs
    have hsz : (elems.length + rest.length) * 8 ≤ reachBytes := by
      refine hw _ ?_
      rw [hx]
      simp only [DataW.weights, Tryz.underlying31, bytesInt, List.length_map]
      exact List.mem_cons_self ..
    have hrb : reachBytes = 140737488351232 := by decide
    have hbool : ∀ i, i < len → ∃ b, W.cell? (ad.add i) = some (.int .i64 b) := by
      intro i hi
      have hc := hcells i hi
      rw [List.getElem?_eq_getElem (by omega), cellsInt, Nat.mul_one] at hc
      obtain ⟨cs, h1, h2⟩ := Option.bind_eq_some_iff.1 hc
      obtain ⟨_, hl, hcell⟩ := World.cells?_some h1
      obtain ⟨b, hcs', _, _⟩ := DataW.trod_int Tryz.underlying3 h2
      have h3 := hcell 0 (by omega)
      rw [hcs'] at h3
      refine ⟨b, ?_⟩
      rw [add_none] at h3
      simpa using h3
    by_cases h0 : len = 0
    · exact ⟨some ad, len, cap, fun _ => 0, hcs, by omega, Or.inl h0⟩
    · obtain ⟨b0, hb0⟩ := hbool 0 (by omega)
      obtain ⟨b, off, rfl⟩ := at_plain hb0
      refine ⟨some ⟨b, off, none⟩, len, cap, fun i => if hi : i < len then (hbool i hi).choose else 0, hcs, by omega, Or.inr ⟨b, off, rfl, fun i hi => ?_⟩⟩
      simp only [hi, dif_pos]
      rw [← Addr.add_mid]
      exact (hbool i hi).choose_spec

/-- THE SCRIPT, AS IT COMES IN -/
theorem open_ops2 {a : Option Addr} {len cap fuel : Nat} {x : DataW H × List MemPlace} (h : DataW.trod enc Tryz.prog W 0 (fun _ => true) true fuel 22 [.slice a len cap] = some x) (hw : ∀ n ∈ x.1.weights Tryz.prog 22, n ≤ reachBytes) : ScriptIn2 W a len ∧ len ≤ 1600000000000 := by
  rcases DataW.trod_slice Tryz.underlying22 h with ⟨hcs, hx⟩ | ⟨ad, len', cap', elems, rest, n, _, hcs, hx, hb, hlc, hcm, hel, hcells, hsp, _⟩
  · simp at hcs
    exact ⟨Or.inl hcs.2.1, by omega⟩
  · simp at hcs
    obtain ⟨rfl, rfl, rfl⟩ := hcs
    have hrb : reachBytes = 140737488351232 := by decide
    have hsz : (elems.length + rest.length) * 88 ≤ reachBytes := by
      refine hw _ ?_
      rw [hx]
      simp only [DataW.weights, Tryz.underlying22, bytesOp, List.length_map]
      exact List.mem_cons_self ..
    refine ⟨?_, by omega⟩
    by_cases h0 : len = 0
    · exact Or.inl h0
    have key : ∀ j, j < len → ∃ cs, W.cells? 0 (ad.add (j * 7)) 7 = some cs ∧ ∃ e, elems[j]? = some e ∧ DataW.trod enc Tryz.prog W 0 (fun _ => true) true n 34 cs = some e := by
      intro j hj
      have hc := hcells j hj
      rw [cellsOp] at hc
      rw [List.getElem?_eq_getElem (by omega)] at hc
      obtain ⟨cs, h1, h2⟩ := Option.bind_eq_some_iff.1 hc
      exact ⟨cs, h1, _, List.getElem?_eq_getElem (by omega), h2⟩
    obtain ⟨cs0, hcs0, _⟩ := key 0 (by omega)
    obtain ⟨_, hl0, hcell0⟩ := World.cells?_some hcs0
    have hc00 := hcell0 0 (by omega)
    rw [List.getElem?_eq_getElem (by omega), Nat.zero_mul] at hc00
    rw [add_none] at hc00
    obtain ⟨sb, so, rfl⟩ := at_plain hc00
    refine Or.inr ⟨sb, so, rfl, fun j hj => ?_⟩
    obtain ⟨cs, hcs, e, he, htr⟩ := key j hj
    obtain ⟨_, hl, hcell⟩ := World.cells?_some hcs
    obtain ⟨xs, m, _, hxe, hlen, hxl, hf⟩ := DataW.trod_struct Tryz.underlying34 htr
    have hxl7 : xs.length = 7 := hxl
    have hin : e.1 ∈ elems.map (·.1) := List.mem_map.2 ⟨e, List.mem_of_getElem? he, rfl⟩
    have hwe : ∀ n ∈ e.1.weights Tryz.prog 34, n ≤ reachBytes := fun n hn => by
      refine hw n ?_
      rw [hx]
      simp only [DataW.weights, Tryz.underlying22]
      exact List.mem_cons_of_mem _ (List.mem_append_left _ (weights_all hin n hn))
    have hcj : ∀ i, i < 7 → W.cell? ⟨sb, so + j * 7 + i, none⟩ = cs[i]? := fun i hi => by
      have := hcell i hi
      rw [Addr.add_mid, Addr.add_mid] at this
      exact this
    have hint : ∀ i, i < 5 → ∃ z, cs[i]? = some (.int .i64 z) ∧ Fits z := by
      intro i hi
      have hfi : ∃ fd : Field, fd.type = 3 ∧ fd.offset = i ∧ DataW.trod enc Tryz.prog W 0 (fun _ => true) true m fd.type ((cs.drop fd.offset).take (Tryz.prog.cellsOf fd.type)) = xs[i]? := by
        match i, hi with
        | 0, _ => exact ⟨_, rfl, rfl, hf 0 _ rfl⟩
        | 1, _ => exact ⟨_, rfl, rfl, hf 1 _ rfl⟩
        | 2, _ => exact ⟨_, rfl, rfl, hf 2 _ rfl⟩
        | 3, _ => exact ⟨_, rfl, rfl, hf 3 _ rfl⟩
        | 4, _ => exact ⟨_, rfl, rfl, hf 4 _ rfl⟩
      obtain ⟨fd, t3, of, ht⟩ := hfi
      rw [t3, of, cellsInt, List.getElem?_eq_getElem (show i < xs.length by omega)] at ht
      obtain ⟨z, hz, _, hwf⟩ := DataW.trod_int Tryz.underlying3 ht
      refine ⟨z, ?_, fitsOf hwf⟩
      have : ((cs.drop i).take 1)[0]? = some (.int .i64 z) := by rw [hz]; rfl
      simpa using this
    have h5 : DataW.trod enc Tryz.prog W 0 (fun _ => true) true m 31 ((cs.drop 5).take (Tryz.prog.cellsOf 31)) = xs[5]? := hf 5 _ rfl
    rw [List.getElem?_eq_getElem (show 5 < xs.length by omega), cellsInts] at h5
    have h6 : DataW.trod enc Tryz.prog W 0 (fun _ => true) true m 32 ((cs.drop 6).take (Tryz.prog.cellsOf 32)) = xs[6]? := hf 6 _ rfl
    rw [List.getElem?_eq_getElem (show 6 < xs.length by omega), cellsBools] at h6
    obtain ⟨k, k1, k2⟩ := hint 0 (by omega)
    obtain ⟨mm, m1, m2⟩ := hint 1 (by omega)
    obtain ⟨aa, a1, a2⟩ := hint 2 (by omega)
    obtain ⟨bb, b1, b2⟩ := hint 3 (by omega)
    obtain ⟨cc, c1, c2⟩ := hint 4 (by omega)
    have hlist : ∀ i (hi : i < cs.length), (cs.drop i).take 1 = [cs[i]] := fun i hi => by
      rw [List.drop_eq_getElem_cons hi]
      rfl
    rw [hlist 5 (by omega)] at h5
    rw [hlist 6 (by omega)] at h6
    obtain ⟨la, ln, lc, gl, hL, hln, hIL⟩ := open_nums h5 (fun n hn => hwe n (by
      rw [hxe]
      simp only [DataW.weights, Tryz.underlying34]
      exact DataW.weights_mem_each (j := 5) (t := 31) rfl (by simp [hxl7]) n hn))
    obtain ⟨va, vn, vc, f, hV, hvn, hT⟩ := open_truths h6 (fun n hn => hwe n (by
      rw [hxe]
      simp only [DataW.weights, Tryz.underlying34]
      exact DataW.weights_mem_each (j := 6) (t := 32) rfl (by simp [hxl7]) n hn))
    have g5 : cs[5]? = some (.slice la ln lc) := by rw [List.getElem?_eq_getElem (by omega), hL]
    have g6 : cs[6]? = some (.slice va vn vc) := by rw [List.getElem?_eq_getElem (by omega), hV]
    exact ⟨k, mm, aa, bb, cc, la, ln, lc, gl, va, vn, vc, f, (hcj 0 (by omega)).trans k1, (hcj 1 (by omega)).trans m1, (hcj 2 (by omega)).trans a1, (hcj 3 (by omega)).trans b1, (hcj 4 (by omega)).trans c1, (hcj 5 (by omega)).trans g5, (hcj 6 (by omega)).trans g6, k2, m2, a2, b2, c2, hvn, hT, hln, hIL⟩
end

end Go.Proofs.YtmgjegokkbghlaaGreat
