/- The walk of Table.Swap. -/
import Derived.Test.YtmgjegokkbghlaaGreatDoorExis
namespace Go.Proofs.YtmgjegokkbghlaaGreatDoor
open Go.RowKit Go.Maps Bdd
attribute [local go_sem ↓] Go.wp_at_zero Go.wp_at_succ

/-- r is the function F -/
def Val (N : Tab) (r : Int) (F : Fun) : Prop := Ok N 0 r ∧ ∀ a, E N r a = F a
theorem Val.sub {N N' : Tab} {top last last' : Int} {r : Int} {F : Fun} (h : Val N r F) (hw : Wf N top last) (hw' : Wf N' top last') (hs : Sub N N') : Val N' r F :=
  ⟨h.1.sub hs, fun a => by rw [E_sub hw hw' hs h.1, h.2]⟩

/-- a call of the table that makes F -/
def Puts (w' : World) (t bn bm sz : Nat) (N : Tab) (top last : Int) (F : Fun) (w : World) (e : Ending) : Prop :=
  ∃ r N1 last1 sz1, e = .returned (.int .i64 r) ∧ TabAt w' t bn bm sz1 N1 top last1 ∧ Sub N N1 ∧ Val N1 r F ∧ last ≤ last1 ∧ last1 ≤ last + 2048 ∧ sz1 ≤ sz + 2048 ∧ Keeps [t, bn, bm] w w'

theorem tvariable_v {w : World} {t bn bm sz : Nat} {N : Tab} {top last : Int} (hT : TabAt w t bn bm sz N top last) {i : Int} (h0 : 0 ≤ i) (h1 : i < top) (hb1 : last + 2048 ≤ 4611686018427387904) (hb2 : sz + 2048 < maxLen) :
    Calls Tryz.prog 37 #[.pointer (some ⟨t, 0, none⟩), .int .i64 i] w fun e w' => Puts w' t bn bm sz N top last (fun a => a i) w e := by
  refine (tvariable_any hT h0 h1 (by omega) (by omega)).mono ?_
  rintro e w' ⟨r, N', last', sz', h1, h2, h3, h4, h5, h6, h7, h8, h9⟩
  exact ⟨r, N', last', sz', h1, h2, h3, ⟨h4, h5⟩, h6, by omega, by omega, h9⟩
theorem trestrict_v {w : World} {t bn bm sz : Nat} {N : Tab} {top last : Int} (hT : TabAt w t bn bm sz N top last) {f lv : Int} (v : Bool) {F : Fun} (hf : Val N f F) (h0 : 0 ≤ lv) (h1 : lv < top) (hb1 : last + 2048 ≤ 4611686018427387904) (hb2 : sz + 2048 < maxLen) :
    Calls Tryz.prog 149 #[.pointer (some ⟨t, 0, none⟩), .int .i64 f, .int .i64 lv, .bool v] w fun e w' => Puts w' t bn bm sz N top last (fun a => F (setAt a lv v)) w e := by
  refine (trestrict_any hT hf.1 h0 h1 hb1 hb2).mono ?_
  rintro e w' ⟨r, N', last', sz', h1, h2, h3, h4, h5, h6, h7, h8, h9⟩
  exact ⟨r, N', last', sz', h1, h2, h3, ⟨h4, fun a => by rw [h5, hf.2]⟩, h6, by omega, by omega, h9⟩
theorem tchoose_v {w : World} {t bn bm sz : Nat} {N : Tab} {top last : Int} (hT : TabAt w t bn bm sz N top last) {f g h : Int} {F G H : Fun} (hf : Val N f F) (hg : Val N g G) (hh : Val N h H) (hb1 : last + 2048 ≤ 4611686018427387904) (hb2 : sz + 2048 < maxLen) :
    Calls Tryz.prog 38 #[.pointer (some ⟨t, 0, none⟩), .int .i64 f, .int .i64 g, .int .i64 h] w fun e w' => Puts w' t bn bm sz N top last (fun a => if F a then G a else H a) w e := by
  refine (tchoose_any hT hf.1 hg.1 hh.1 hb1 hb2).mono ?_
  rintro e w' ⟨r, N', last', sz', h1, h2, h3, h4, h5, h6, h7, h8, h9⟩
  exact ⟨r, N', last', sz', h1, h2, h3, ⟨h4, fun a => by rw [h5, hf.2, hg.2, hh.2]⟩, h6, by omega, by omega, h9⟩

/-- two variables in each other's place -/
def swapA (a : Int → Bool) (i j : Int) : Int → Bool := setAt (setAt a j (a i)) i (a j)

set_option maxRecDepth 100000 in
set_option maxHeartbeats 2000000 in
theorem tswap_any {w : World} {t bn bm sz : Nat} {N : Tab} {top last : Int} (hT : TabAt w t bn bm sz N top last) {f i j : Int} {F : Fun} (hf : Val N f F) (hi0 : 0 ≤ i) (hi1 : i < top) (hj0 : 0 ≤ j) (hj1 : j < top) (hb1 : last + 40000 ≤ 4611686018427387904) (hb2 : sz + 40000 < maxLen) :
    Calls Tryz.prog 137 #[.pointer (some ⟨t, 0, none⟩), .int .i64 f, .int .i64 i, .int .i64 j] w fun e w' => ∃ r N1 last1 sz1, e = .returned (.int .i64 r) ∧ TabAt w' t bn bm sz1 N1 top last1 ∧ Sub N N1 ∧ Val N1 r (fun a => F (swapA a i j)) ∧ last ≤ last1 ∧ last1 ≤ last + 40000 ∧ sz1 ≤ sz + 40000 ∧ Keeps [t, bn, bm] w w' := by
  go_enter Tryz.func137, Tryz.ntmps137
  go_wp2_with fail
  refine (tvariable_v hT hi0 hi1 (by omega) (by omega)).mono ?_
  rintro e w1 ⟨x, N1, l1, s1, rfl, hT1, hs1, hx, p1, q1, z1, hk1⟩
  go_wp2_with fail
  refine (tvariable_v hT1 hj0 hj1 (by omega) (by omega)).mono ?_
  rintro e w2 ⟨y, N2, l2, s2, rfl, hT2, hs2, hy, p2, q2, z2, hk2⟩
  have hx2 := hx.sub hT1.wf hT2.wf hs2
  have hf2 := (hf.sub hT.wf hT1.wf hs1).sub hT1.wf hT2.wf hs2
  go_wp2_with fail
  refine (trestrict_v hT2 false hf2 hi0 hi1 (by omega) (by omega)).mono ?_
  rintro e w3 ⟨lo, N3, l3, s3, rfl, hT3, hs3, hlo, p3, q3, z3, hk3⟩
  have hf3 := hf2.sub hT2.wf hT3.wf hs3
  go_wp2_with fail
  refine (trestrict_v hT3 true hf3 hi0 hi1 (by omega) (by omega)).mono ?_
  rintro e w4 ⟨hi, N4, l4, s4, rfl, hT4, hs4, hhi, p4, q4, z4, hk4⟩
  have hx4 := (hx2.sub hT2.wf hT3.wf hs3).sub hT3.wf hT4.wf hs4
  have hy4 := (hy.sub hT2.wf hT3.wf hs3).sub hT3.wf hT4.wf hs4
  have hlo4 := hlo.sub hT3.wf hT4.wf hs4
  go_wp2_with fail
  refine (trestrict_v hT4 true hhi hj0 hj1 (by omega) (by omega)).mono ?_
  rintro e w5 ⟨r5, N5, l5, s5, rfl, hT5, hs5, h5, p5, q5, z5, hk5⟩
  go_wp2_with fail
  refine (trestrict_v hT5 true (hlo4.sub hT4.wf hT5.wf hs5) hj0 hj1 (by omega) (by omega)).mono ?_
  rintro e w6 ⟨r6, N6, l6, s6, rfl, hT6, hs6, h6, p6, q6, z6, hk6⟩
  have hs46 := hs5.trans hs6
  go_wp2_with fail
  refine (tchoose_v hT6 (hy4.sub hT4.wf hT6.wf hs46) (h5.sub hT5.wf hT6.wf hs6) h6 (by omega) (by omega)).mono ?_
  rintro e w7 ⟨r7, N7, l7, s7, rfl, hT7, hs7, h7, p7, q7, z7, hk7⟩
  have hs47 := hs46.trans hs7
  go_wp2_with fail
  refine (trestrict_v hT7 false (hhi.sub hT4.wf hT7.wf hs47) hj0 hj1 (by omega) (by omega)).mono ?_
  rintro e w8 ⟨r8, N8, l8, s8, rfl, hT8, hs8, h8, p8, q8, z8, hk8⟩
  have hs48 := hs47.trans hs8
  go_wp2_with fail
  refine (trestrict_v hT8 false (hlo4.sub hT4.wf hT8.wf hs48) hj0 hj1 (by omega) (by omega)).mono ?_
  rintro e w9 ⟨r9, N9, l9, s9, rfl, hT9, hs9, h9, p9, q9, z9, hk9⟩
  have hs49 := hs48.trans hs9
  go_wp2_with fail
  refine (tchoose_v hT9 (hy4.sub hT4.wf hT9.wf hs49) (h8.sub hT8.wf hT9.wf hs9) h9 (by omega) (by omega)).mono ?_
  rintro e w10 ⟨r10, N10, l10, s10, rfl, hT10, hs10, h10, p10, q10, z10, hk10⟩
  have hs410 := hs49.trans hs10
  have hs710 := (hs8.trans hs9).trans hs10
  go_wp2_with fail
  refine (tchoose_v hT10 (hx4.sub hT4.wf hT10.wf hs410) (h7.sub hT7.wf hT10.wf hs710) h10 (by omega) (by omega)).mono ?_
  rintro e w11 ⟨r, N11, l11, s11, rfl, hT11, hs11, h11, p11, q11, z11, hk11⟩
  go_wp2_with fail
  go_ret
  refine ⟨r, N11, l11, s11, rfl, hT11, (((hs1.trans hs2).trans hs3).trans hs4).trans (hs410.trans hs11), ⟨h11.1, fun a => ?_⟩, by omega, by omega, by omega, ((((((((((hk1.trans hk2).trans hk3).trans hk4).trans hk5).trans hk6).trans hk7).trans hk8).trans hk9).trans hk10).trans hk11)⟩
  rw [h11.2]
  cases hai : a i <;> cases haj : a j <;> simp [swapA, hai, haj]

end Go.Proofs.YtmgjegokkbghlaaGreatDoor
