/- Check. -/
import Derived.Test.YtmgjegokkbghlaaGreatDoorVerd
namespace Go.Proofs.YtmgjegokkbghlaaGreatDoor
open Go.RowKit Go.Maps Bdd Circ Gram Runs
set_option linter.unusedVariables false
attribute [local go_sem ↓] Go.wp_at_zero Go.wp_at_succ

set_option maxRecDepth 100000 in
set_option maxHeartbeats 2000000 in
theorem read_all {w : World} (hG : Glob w) (s : ByteArray) :
    Calls Tryz.prog 13 #[.string s] w fun e w' => Keeps [] w w' ∧ CReadIs (bl s) e w' := by
  by_cases hsz : s.size ≤ 1000000
  · exact read_any hG s hsz
  · have hlong : 1000 < (bl s).length := by rw [bl_len]; omega
    have hb := blank_new w
    obtain ⟨b0, b1, b2, f0, f1, f2, blt⟩ := hb
    have HL := hid_intro hlong
    have q1 : decide ((1000 : Int) < (s.size : Int)) = true := by simp; omega
    clear hlong hsz
    go_enter Tryz.func13, Tryz.ntmps13
    go_wp2_with fail
    try simp only [Exit.inBlock, Exit.then]
    refine bodyPost_ret (v := .tuple #[.agg #[.slice none 0 0, .slice none 0 0, .slice none 0 0], .int .i64 4, .int .i64 0]) (by simp [results, Tryz.results13, go_sem, b0, b1, b2]; try rfl) rfl ?_
    exact ⟨(Keeps.refl _ _).alloc _, creadIs_err (readP_long HL.out) rfl rfl⟩
theorem VerdV.shape {base : Nat} {w : World} {ls : List Ln} {v : Value} (h : VerdV base w ls v) : ∃ b x a n c a' n' c', v = .agg #[.bool b, .int .i64 x, .slice a n c, .slice a' n' c'] := by
  rcases h with ⟨h, _⟩ | ⟨k, s0, is, A, V, bk, h1, h1b, h2, h3⟩
  · exact ⟨_, _, _, _, _, _, _, _, h⟩
  · exact ⟨_, _, _, _, _, _, _, _, h2⟩
/-- what Check answers -/
def CheckIs (w w' : World) (t : List UInt8) (e : Ending) : Prop := match readP t with
  | .err k line => e = .returned (.tuple #[.agg #[.bool false, .int .i64 0, .slice none 0 0, .slice none 0 0], .int .i64 (k : Int), .int .i64 (line : Int)])
  | .ok ls => ∃ v, e = .returned (.tuple #[v, .int .i64 0, .int .i64 0]) ∧ VerdV w.heap.size w' ls v
theorem err_pos {t : List UInt8} {k line : Nat} (h : readP t = .err k line) : k ≠ 0 := by
  unfold readP judge at h
  repeat' split at h
  all_goals first | (cases h; decide) | cases h

set_option maxRecDepth 100000 in
set_option maxHeartbeats 4000000 in
theorem check_any {w : World} (hG : Glob w) (s : ByteArray) :
    Calls Tryz.prog 5 #[.string s] w fun e w' => CheckIs w w' (bl s) e ∧ Keeps [] w w' := by
  obtain ⟨wa, hwa⟩ : ∃ wa, wa = w.alloc (.cells #[.bool false, .int .i64 0, .slice none 0 0, .slice none 0 0] 25) := ⟨_, rfl⟩
  obtain ⟨R, hR⟩ : ∃ R, R = w.heap.size := ⟨_, rfl⟩
  have hka : Keeps [] w wa := by rw [hwa]; exact (Keeps.refl _ _).alloc _
  have hRc : ∀ q u, (#[.bool false, .int .i64 0, .slice none 0 0, .slice none 0 0] : Array Value)[q]? = some u → wa.cell? ⟨R, q, none⟩ = some u := fun q u hu => by
    rw [hwa, hR, World.cell?_alloc_at _ _ _ _ rfl]; exact hu
  have hRf : ∀ q, wa.frozen? ⟨R, q, none⟩ = false := fun q => by rw [hwa, hR, World.frozen?_alloc_at _ _ _ _ rfl]
  have hsza : wa.heap.size = R + 1 := by rw [hwa, hR]; simp
  have HC1 := hid_intro (read_all (hG.keeps hka) s)
  have HRc := hid_intro hRc
  have HRf := hid_intro hRf
  have HR := hid_intro hR
  have HSz := hid_intro hsza
  clear hRc hRf hsza
  go_enter Tryz.func5, Tryz.ntmps5
  go_wp2_with fail
  rw [← hwa, ← hR]
  clear hwa hR
  refine Calls.mono HC1.out ?_
  rintro e w1 ⟨hk1, hread⟩
  clear HC1
  have hk01 : Keeps [] w w1 := hka.trans hk1
  unfold CReadIs at hread
  cases hp : readP (bl s) with
  | err k line =>
    rw [hp] at hread
    have hk0 : ¬ (k : Int) = 0 := by have := err_pos hp; omega
    have hkb : ((k : Int) == 0) = false := by simpa using hk0
    simp only at hread
    subst hread
    have hsz := HSz.out
    have hlt : R < wa.heap.size := by omega
    have hkb2 : Keeps [] wa (w1.alloc (.cells #[.slice none 0 0, .slice none 0 0, .slice none 0 0] 52)) := hk1.alloc _
    have r0 : (w1.alloc (.cells #[.slice none 0 0, .slice none 0 0, .slice none 0 0] 52)).cell? ⟨R, 0, none⟩ = some (.bool false) := hkb2.cell (HRc.out 0 _ rfl) (by simp)
    have r1 : (w1.alloc (.cells #[.slice none 0 0, .slice none 0 0, .slice none 0 0] 52)).cell? ⟨R, 1, none⟩ = some (.int .i64 0) := hkb2.cell (HRc.out 1 _ rfl) (by simp)
    have r2 : (w1.alloc (.cells #[.slice none 0 0, .slice none 0 0, .slice none 0 0] 52)).cell? ⟨R, 2, none⟩ = some (.slice none 0 0) := hkb2.cell (HRc.out 2 _ rfl) (by simp)
    have r3 : (w1.alloc (.cells #[.slice none 0 0, .slice none 0 0, .slice none 0 0] 52)).cell? ⟨R, 3, none⟩ = some (.slice none 0 0) := hkb2.cell (HRc.out 3 _ rfl) (by simp)
    have f0 := (hkb2.frozen (p := ⟨R, 0, none⟩) hlt (by simp)).trans (HRf.out 0)
    have f1 := (hkb2.frozen (p := ⟨R, 1, none⟩) hlt (by simp)).trans (HRf.out 1)
    have f2 := (hkb2.frozen (p := ⟨R, 2, none⟩) hlt (by simp)).trans (HRf.out 2)
    have f3 := (hkb2.frozen (p := ⟨R, 3, none⟩) hlt (by simp)).trans (HRf.out 3)
    have HP := hid_intro hp
    clear hp hsz
    go_wp2_with fail
    obtain ⟨y0, y1, y2, y3⟩ := box_four r0 r1 r2 r3 (.bool false) (.int .i64 0) (.slice none 0 0) (.slice none 0 0)
    have hk5 := boxed4_keeps (w1.alloc (.cells #[.slice none 0 0, .slice none 0 0, .slice none 0 0] 52)) R (.bool false) (.int .i64 0) (.slice none 0 0) (.slice none 0 0)
    unfold boxed4 at y0 y1 y2 y3 hk5
    refine bodyPost_ret (v := .tuple #[.agg #[.bool false, .int .i64 0, .slice none 0 0, .slice none 0 0], .int .i64 (k : Int), .int .i64 (line : Int)]) (by simp [results, Tryz.results5, go_sem, y0, y1, y2, y3]; try rfl) rfl ?_
    have hR := HR.out
    refine ⟨by unfold CheckIs; rw [HP.out], ?_⟩
    exact ((((hka.trans hkb2).mono (S' := [R]) (by simp)).trans hk5)).strike (fun i hi hlt => by simp at hi; omega)
  | ok ls =>
    rw [hp] at hread
    have hg := good_of hp
    obtain ⟨a0, n0, m0, a1, m1, a2, n2, m2, rfl, hcir⟩ := hread
    have HG := hid_intro hg
    have HCi := hid_intro hcir
    have HP := hid_intro hp
    clear hg hcir hp
    have hkb : Keeps [] w1 (w1.alloc (.cells #[.slice a0 n0 m0, .slice a1 (latches ls).length m1, .slice a2 n2 m2] 52)) := (Keeps.refl _ _).alloc _
    have HC2 := hid_intro (build_any (m1 := m1) HG.out (HCi.out.keeps hkb))
    go_wp2_with fail
    refine Calls.mono HC2.out ?_
    rintro e w2 ⟨m, t, bn, bm, K, N, rf, rs, rb, rfl, hm, hK, hbm, hbt, hbbn, hbbm, hk2⟩
    have hkw2 : Keeps [] wa w2 := (hk1.trans hkb).trans hk2
    have hlow : wa.heap.size ≤ t ∧ wa.heap.size ≤ bn ∧ wa.heap.size ≤ bm := by
      have h1 := (hk1.trans hkb).size
      omega
    have HC3 := hid_intro (verdict_any HG.out hm (by omega))
    clear HC2 hm hbm hbt hbbn hbbm
    go_wp2_with fail
    refine Calls.mono HC3.out ?_
    rintro e w3 ⟨v, rfl, hv, hk3⟩
    have hkw3 : Keeps [] wa w3 := ((hkw2.mono (by simp)).trans hk3).strike (fun i hi hlt => by simp at hi; omega)
    have hsz := HSz.out
    have hlt : R < wa.heap.size := by omega
    have hv2 := hv.low (base' := R + 1) (by have := hkw2.size; omega)
    obtain ⟨b, x, a, n, c, a', n', c', rfl⟩ := hv2.shape
    have HV := hid_intro hv2
    have r0 : w3.cell? ⟨R, 0, none⟩ = some (.bool false) := hkw3.cell (HRc.out 0 _ rfl) (by simp)
    have r1 : w3.cell? ⟨R, 1, none⟩ = some (.int .i64 0) := hkw3.cell (HRc.out 1 _ rfl) (by simp)
    have r2 : w3.cell? ⟨R, 2, none⟩ = some (.slice none 0 0) := hkw3.cell (HRc.out 2 _ rfl) (by simp)
    have r3 : w3.cell? ⟨R, 3, none⟩ = some (.slice none 0 0) := hkw3.cell (HRc.out 3 _ rfl) (by simp)
    have f0 := (hkw3.frozen (p := ⟨R, 0, none⟩) hlt (by simp)).trans (HRf.out 0)
    have f1 := (hkw3.frozen (p := ⟨R, 1, none⟩) hlt (by simp)).trans (HRf.out 1)
    have f2 := (hkw3.frozen (p := ⟨R, 2, none⟩) hlt (by simp)).trans (HRf.out 2)
    have f3 := (hkw3.frozen (p := ⟨R, 3, none⟩) hlt (by simp)).trans (HRf.out 3)
    clear HC3 hv hv2 hsz
    go_wp2_with fail
    obtain ⟨y0, y1, y2, y3⟩ := box_four r0 r1 r2 r3 (.bool b) (.int .i64 x) (.slice a n c) (.slice a' n' c')
    have hk5 := boxed4_keeps w3 R (.bool b) (.int .i64 x) (.slice a n c) (.slice a' n' c')
    unfold boxed4 at y0 y1 y2 y3 hk5
    refine bodyPost_ret (v := .tuple #[.agg #[.bool b, .int .i64 x, .slice a n c, .slice a' n' c'], .int .i64 0, .int .i64 0]) (by simp [results, Tryz.results5, go_sem, y0, y1, y2, y3]; try rfl) rfl ?_
    have hR := HR.out
    refine ⟨by unfold CheckIs; rw [HP.out]; exact ⟨_, rfl, (HV.out.keeps hk5 (by simp)).low (by omega)⟩, ?_⟩
    exact ((((hka.trans hkw3).mono (S' := [R]) (by simp)).trans hk5)).strike (fun i hi hlt => by simp at hi; omega)

end Go.Proofs.YtmgjegokkbghlaaGreatDoor
