/- Turned. -/
import Derived.Test.YtmgjegokkbghlaaTurnAll
import Derived.Test.YtmgjegokkbghlaaCanon
import Derived.Test.YtmgjegokkbghlaaSizeC
namespace Go.Proofs.Ytmgjegokkbghlaa
open Go.RowKit Go.Maps Bdd
attribute [local go_sem ↓] Go.wp_at_zero Go.wp_at_succ

theorem nodes_o {w : World} {s hb t bn bm blk L nh sz : Nat} {lim given lb : Int} {V : Int → Option Fun} {c : Int → Int} (h : StO w s hb t bn bm blk L nh lim given V lb c sz) :
    Calls Try.prog 28 #[.pointer (some ⟨s, 0, none⟩)] w fun e w' => e = .returned (.int .i64 (sz : Int)) ∧ Keeps [] w w' := by
  obtain ⟨od, hS, _⟩ := h
  refine (nodes_call hS).mono ?_
  rintro e w' ⟨hk, N, last, H, rfl, _⟩
  exact ⟨rfl, hk⟩
theorem values_o {w : World} {s hb t bn bm blk nh sz : Nat} {lim given lb : Int} {V : Int → Option Fun} {c : Int → Int} (hS : StO w s hb t bn bm blk 4 nh lim given V lb c sz) {h : Int} {F : Fun} (hV : V h = some F) (tt : Nat → Bool) (ht : ∀ i, i < 16 → F (asg i) = tt i) :
    Calls Try.prog 13 #[.pointer (some ⟨s, 0, none⟩), .agg (mA h tt)] w fun e w' => e = .returned (.bool true) ∧ Keeps [] w w' := by
  obtain ⟨od, h1, _⟩ := hS
  exact values_any h1 hV tt ht
theorem same_o {w : World} {s hb t bn bm blk L nh sz : Nat} {lim given lb : Int} {V : Int → Option Fun} {c : Int → Int} (h : StO w s hb t bn bm blk L nh lim given V lb c sz) {f g : Int} {F G : Fun} (hf : V f = some F) (hg : V g = some G) :
    Calls Try.prog 14 #[.pointer (some ⟨s, 0, none⟩), .int .i64 f, .int .i64 g] w fun e w' => ∃ b : Bool, e = .returned (.tuple #[.bool b, .int .i64 0]) ∧ (b = true ↔ ∀ a, F a = G a) ∧ Keeps [] w w' := by
  obtain ⟨od, h1, _⟩ := h
  exact same_any h1 hf hg

set_option maxRecDepth 100000 in
set_option maxHeartbeats 40000000 in
theorem turned_walk {w : World} {a0 a1 : Option Addr} {len cap len1 cap1 : Nat} {zs zs1 : Nat → Int} {first second : Int} (hw1 : Fits first) (hw2 : Fits second) (hcode : len = 0 ∨ ∃ cb co, a0 = some ⟨cb, co, none⟩ ∧ IntsAt w cb co len zs) (hord : len1 = 0 ∨ ∃ cb co, a1 = some ⟨cb, co, none⟩ ∧ IntsAt w cb co len1 zs1) (hlen1 : (len1 : Int) ≤ 9223372036854775807) :
    Calls Try.prog 8 #[.slice a0 len cap, .slice a1 len1 cap1, .int .i64 first, .int .i64 second] w fun e w' => e = .returned (.bool true) ∧ Keeps [] w w' := by
  have q27 : ∀ (w : World) (a : Option Addr) (n c n' c' : Nat), (binOp .eql 24 (.slice a n c) (.slice none n' c')).run Try.prog w = .ok (.bool a.isNone) w := fun w a n c n' c' => Lib.run_eql_slice_nil w _ _ a n c n' c' Try.underlying24
  have HCO : Hid (len = 0 ∨ ∃ cb co, a0 = some ⟨cb, co, none⟩ ∧ IntsAt w cb co len zs) := hcode
  have HCD : Hid (len1 = 0 ∨ ∃ cb co, a1 = some ⟨cb, co, none⟩ ∧ IntsAt w cb co len1 zs1) := hord
  clear hcode hord
  go_enter Try.func8, Try.ntmps8
  go_wp2_with fail
  refine begun_any.mono ?_
  rintro e w1 ⟨s, hb, t, bn, bm, od, sz, v, ms, V, rfl, hod, hS, hG, hml, hown, hsep, hk, j1, j2, j3, j4, j5, j6⟩
  have HOD : Hid (∀ k, od.at_ k = k) := hod
  clear hod
  go_wp2_with fail
  refine (grown_all hS hG hml hown hsep hk (by simp; omega) HCO.out).mono ?_
  clear hS hG hml hown hsep hk
  rintro e w2 ⟨n, g, cap2, ms2, V2, sz2, rfl, h4, h28, hS, hG, hml, hown, hk⟩
  have hnz : (4 : Int) ≤ (n : Int) := by omega
  have hn28 : (n : Int) ≤ 28 := by omega
  have HG : Hid (Good V2 ms2) := hG
  have Hm : Hid (ms2.length = n) := hml
  clear hG hml
  go_wp2_with fail
  refine (pick_any hw1 (by omega) (by omega)).mono ?_
  rintro e w3 ⟨⟨c, rfl, hc0, hc1⟩, rfl⟩
  obtain ⟨kf, rfl⟩ := Int.eq_ofNat_of_zero_le hc0
  have lf : kf < n := by omega
  obtain ⟨m, hm⟩ : ∃ m, m = ms2[kf]'(by rw [Hm.out]; exact lf) := ⟨_, rfl⟩
  have rf : w2.rangeAt g (kf * 17) (mL m) := by rw [hm]; exact range_of hown Hm.out kf _
  obtain ⟨em, F, hV, hF, _⟩ := HG.out kf (by rw [Hm.out]; exact lf)
  rw [← hm] at em hF
  rw [← em] at hV
  have HV : Hid (V2 m.1 = some F) := hV
  have HF : Hid (∀ i, i < 16 → F (asg i) = m.2 i) := hF
  have Hem : Hid (m.1 = (kf : Int) + 1) := em
  clear hm em hV hF
  obtain ⟨W1, hW1⟩ : ∃ W1, W1 = w2.alloc (.cells (mA m.1 m.2) 31) := ⟨_, rfl⟩
  have y1 : Keeps [] w2 W1 := by rw [hW1]; exact (Keeps.refl _ _).alloc _
  have hF1 : Full W1 w2.heap.size m := by rw [hW1]; exact full_start _ _
  have H1 : Hid (W1 = w2.alloc (.cells (mA m.1 m.2) 31)) := hW1
  clear hW1
  go_wp2_with (first
    | (refine wpList_load_mid rfl 31 _ rfl g (kf * 17) rfl _ _ rf Try.underlying31 rfl size34 ?_)
    | (refine wpList_store_mid rfl 31 _ _ rfl w2.heap.size 0 (mA m.1 m.2) rfl rfl (there34 w2 zA 17 (by decide)) size34 (one34 _ _) ?_; rw [store34, ← H1.out])
    | fail)
  have ownW1 : W1.ownsRow w.heap.size 31 17 (.slice (some ⟨g, 0, none⟩) n cap2) n (flat ms2) := ownsRow_keeps hown y1 (by simp)
  have lB : w2.heap.size < W1.heap.size := by rw [H1.out]; simp
  have ls : ∀ i ∈ [s, hb, t, bn, bm, od.blk], i < w2.heap.size := hS.lts
  have ls0 : ∀ i ∈ [s, hb, t, bn, bm, od.blk], w.heap.size ≤ i := by simp; omega
  generalize w2.heap.size = B1 at *
  refine (pick_any hw2 (by omega) (by omega)).mono ?_
  rintro e w3 ⟨⟨c, rfl, hc0', hc1'⟩, rfl⟩
  obtain ⟨kg, rfl⟩ := Int.eq_ofNat_of_zero_le hc0'
  have lg : kg < n := by omega
  obtain ⟨m', hm⟩ : ∃ m, m = ms2[kg]'(by rw [Hm.out]; exact lg) := ⟨_, rfl⟩
  have rg : W1.rangeAt g (kg * 17) (mL m') := by rw [hm]; exact range_of ownW1 Hm.out kg _
  obtain ⟨em, G, hV, hF, _⟩ := HG.out kg (by rw [Hm.out]; exact lg)
  rw [← hm] at em hF
  rw [← em] at hV
  have HV' : Hid (V2 m'.1 = some G) := hV
  have HF' : Hid (∀ i, i < 16 → G (asg i) = m'.2 i) := hF
  have Hem' : Hid (m'.1 = (kg : Int) + 1) := em
  clear hm em hV hF
  obtain ⟨W2, hW2⟩ : ∃ W2, W2 = W1.alloc (.cells (mA m'.1 m'.2) 31) := ⟨_, rfl⟩
  have y2 : Keeps [] W1 W2 := by rw [hW2]; exact (Keeps.refl _ _).alloc _
  have hF2 : Full W2 W1.heap.size m' := by rw [hW2]; exact full_start _ _
  have H2 : Hid (W2 = W1.alloc (.cells (mA m'.1 m'.2) 31)) := hW2
  clear hW2
  have z1 : Full W2 B1 m := hF1.keeps y2 (by simp)
  have c1 := z1.1
  have c2 := hF2.1
  have HQ : Hid ((∀ a, F a = G a) ↔ all16 m.2 m'.2 = true) := by
    show (∀ a, F a = G a) ↔ all16 m.2 m'.2 = true
    rw [all16_iff]
    constructor
    · intro h i hi; rw [← HF.out i hi, ← HF'.out i hi]; exact h _
    · intro h
      exact agree16 (fun a b hab => hS.dep HV.out a b (fun i h0 h1 => hab i h0 (by simpa using h1))) (fun a b hab => hS.dep HV'.out a b (fun i h0 h1 => hab i h0 (by simpa using h1))) (fun i hi => by rw [HF.out i hi, HF'.out i hi]; exact h i hi)
  go_wp2_with (first
    | (refine wpList_load_mid rfl 31 _ rfl g (kg * 17) rfl _ _ rg Try.underlying31 rfl size34 ?_)
    | (refine wpList_store_mid rfl 31 _ _ rfl W1.heap.size 0 (mA m'.1 m'.2) rfl rfl (there34 W1 zA 17 (by decide)) size34 (one34 _ _) ?_; rw [store34, ← H2.out])
    | fail)
  generalize W1.heap.size = B2 at *
  have hS2 := hS.keeps (y1.trans y2)
  have hkw2 : Keeps [] w W2 := (hk.trans y1).trans y2
  have HO2 : Hid (StO W2 s hb t bn bm od.blk 4 n 2000 n V2 (500000 + 100000 * n) (fun k => k) sz2) := ⟨od, hS2, rfl, fun k _ _ => HOD.out k⟩
  generalize od.blk = blk at *
  clear hS2 hS HOD
  have lsB : ∀ i ∈ [t, bn, bm, blk], i < B1 := fun i hi => ls i (by simp at hi ⊢; omega)
  have nB1 : B1 ∉ [t, bn, bm, blk] := fun hin => by have := lsB B1 hin; omega
  have nB2 : B2 ∉ [t, bn, bm, blk] := fun hin => by have := lsB B2 hin; omega
  have ls4 : ∀ i ∈ [t, bn, bm, blk], w.heap.size ≤ i := fun i hi => ls0 i (by simp at hi ⊢; omega)
  have hszW : B2 < W2.heap.size := cell_lt (p := ⟨B2, 0, none⟩) hF2.1
  have h16 : pw 4 = 16 := by decide
  have hroom : ((n * (pw 4 - 1) : Nat) : Int) ≤ 2000 := by rw [h16]; omega
  clear h16
  refine (nodes_o HO2.out).mono ?_
  rintro e w3 ⟨rfl, hk3⟩
  have HO3 : Hid (StO w3 s hb t bn bm blk 4 n 2000 n V2 (500000 + 100000 * n) (fun k => k) sz2) := HO2.out.keeps hk3
  have f31 : Full w3 B1 m := z1.keeps hk3 (by simp)
  have f32 : Full w3 B2 m' := hF2.keeps hk3 (by simp)
  have hkw3 := hkw2.trans hk3
  have hs3 := hk3.size
  clear c1 c2
  go_wp2_with fail
  refine (turned_any (zs := zs1) (HCD.out.imp id (fun hh => by
    obtain ⟨cb, co, e, hI⟩ := hh
    exact ⟨cb, co, e, fun j hj => ⟨hkw3.cell (hI j hj).1 (by simp), (hI j hj).2⟩⟩)) hlen1).mono ?_
  rintro e w4 ⟨d, rfl, h4, hO4, hk4⟩
  have HO4 : Hid (StO w4 s hb t bn bm blk 4 n 2000 n V2 (500000 + 100000 * n) (fun k => k) sz2) := HO3.out.keeps hk4
  have HD4 : Hid (Ord4 d) := hO4
  have f41 : Full w4 B1 m := f31.keeps hk4 (by simp)
  have f42 : Full w4 B2 m' := f32.keeps hk4 (by simp)
  have hn4 : NumsIn w4 w3.heap.size 0 4 d := fun k hk => by rw [Nat.zero_add]; exact (h4 k hk).1
  have HN4 : Hid (NumsIn w4 w3.heap.size 0 4 d) := hn4
  have nG : w3.heap.size ∉ [t, bn, bm, blk] := fun hin => by have := lsB _ hin; omega
  have hkw4 := hkw3.trans hk4
  generalize w3.heap.size = G4 at *
  clear h4 hO4 hn4 f31 f32 hk3
  go_wp2_with fail
  refine (reorder_ok (cap := 4) HO4.out HD4.out.ord HD4.out.all HN4.out nG hroom (by omega)).mono ?_
  rintro e w5 ⟨rfl, ⟨sz5, hS5⟩, hk5⟩
  have HO5 : Hid (StO w5 s hb t bn bm blk 4 n 2000 n V2 (500000 + 100000 * n + 4000000) d sz5) := hS5
  have f51 : Full w5 B1 m := f41.keeps hk5 nB1
  have f52 : Full w5 B2 m' := f42.keeps hk5 nB2
  have HN5 : Hid (NumsIn w5 G4 0 4 d) := HN4.out.keeps hk5 nG
  have hkw5 : Keeps [] w w5 := ((hkw4.mono (by simp)).trans hk5).strike (fun i hi hlt => by have := ls4 i hi; omega)
  clear hS5 f41 f42 hk4 HN4
  go_wp2_with fail
  refine (order_any HO5.out).mono ?_
  rintro e w6 ⟨g6, cp6, rfl, hg6, hg6', hn6, hk6⟩
  have HO6 : Hid (StO w6 s hb t bn bm blk 4 n 2000 n V2 (500000 + 100000 * n + 4000000) d sz5) := HO5.out.keeps hk6
  have f61 : Full w6 B1 m := f51.keeps hk6 (by simp)
  have f62 : Full w6 B2 m' := f52.keeps hk6 (by simp)
  have HN6 : Hid (NumsIn w6 G4 0 4 d) := HN5.out.keeps hk6 (by simp)
  have HM6 : Hid (NumsIn w6 g6 0 4 d) := hn6
  have hkw6 := hkw5.trans hk6
  clear f51 f52 hn6 HN5
  go_wp2_with fail
  go_loopw [17] (fun i' wx => ∃ j : Nat, j ≤ 4 ∧ i' = .int .i64 j ∧ Keeps [] w6 wx) (fun i' _ => 4 - (intOf i').toNat)
  case atStart => exact ⟨0, by omega, rfl, Keeps.refl _ _⟩
  case round =>
    obtain ⟨j, hj, rfl, hk7⟩ := hrel
    by_cases hlt : j < 4
    · as_aux_lemma =>
      have hj0 : (0 : Int) ≤ (j : Int) := by omega
      have hj1 : (j : Int) < 4 := by omega
      have p1 := hk7.cell (HM6.out j hlt) (by simp)
      have p2 := hk7.cell (HN6.out j hlt) (by simp)
      rw [Nat.zero_add] at p1 p2
      generalize d (j : Int) = x at p1 p2
      have hxx : (x == x) = true := by simp
      clear HO2 HO3 HO4 HO5 HO6 HN6 HM6 HD4
      go_wp2_with fail
      first
        | (go_region; go_wp2_with fail)
        | skip
      all_goals
        go_roundw
        case rel => exact ⟨j + 1, by omega, by go_num, by first | exact hk7 | exact hk7.drew | exact hk7.drewN _⟩
        case measure => simp [intOf]; omega
    · have ej : j = 4 := by omega
      subst ej
      have hkw7 := hkw6.trans hk7
      have HO7 : Hid (StO wr s hb t bn bm blk 4 n 2000 n V2 (500000 + 100000 * n + 4000000) d sz5) := HO6.out.keeps hk7
      have f71 : Full wr B1 m := f61.keeps hk7 (by simp)
      have f72 : Full wr B2 m' := f62.keeps hk7 (by simp)
      have hr7 := full_range f71
      clear f61 f62 HO6 HN6 HM6 hk6 hk7 HO5 HO4 HO3
      go_wp2_with (first
        | (refine wpList_load_mid rfl 31 _ rfl B1 0 rfl (mL m) _ hr7 Try.underlying31 rfl size34 ?_)
        | fail)
      refine (values_o HO7.out HV.out m.2 HF.out).mono ?_
      rintro e w8 ⟨rfl, hk8⟩
      have HO8 : Hid (StO w8 s hb t bn bm blk 4 n 2000 n V2 (500000 + 100000 * n + 4000000) d sz5) := HO7.out.keeps hk8
      have f81 : Full w8 B1 m := f71.keeps hk8 (by simp)
      have f82 : Full w8 B2 m' := f72.keeps hk8 (by simp)
      have c1 := f81.1
      have c2 := f82.1
      have hkw8 := hkw7.trans hk8
      clear f71 f72 hr7 HO7 hk8 hkw7
      go_wp2_with fail
      refine (same_o HO8.out HV.out HV'.out).mono ?_
      rintro e w9 ⟨b, rfl, hb0, hk9⟩
      have eb : b = all16 m.2 m'.2 := by
        have := hb0.trans HQ.out
        cases b <;> cases h : all16 m.2 m'.2 <;> simp [h] at this ⊢
      subst eb
      clear hb0
      have HO9 : Hid (StO w9 s hb t bn bm blk 4 n 2000 n V2 (500000 + 100000 * n + 4000000) d sz5) := HO8.out.keeps hk9
      have f91 : Full w9 B1 m := f81.keeps hk9 (by simp)
      have f92 : Full w9 B2 m' := f82.keeps hk9 (by simp)
      have hkw9 := hkw8.trans hk9
      clear f81 f82 HO8 hk9 hkw8 c1 c2
      go_wp2_with fail
      refine (nodes_o HO9.out).mono ?_
      rintro e w10 ⟨rfl, hk10⟩
      have HO10 : Hid (StO w10 s hb t bn bm blk 4 n 2000 n V2 (500000 + 100000 * n + 4000000) d sz5) := HO9.out.keeps hk10
      have f101 : Full w10 B1 m := f91.keeps hk10 (by simp)
      have f102 : Full w10 B2 m' := f92.keeps hk10 (by simp)
      have hkw10 := hkw9.trans hk10
      have hsz5 : sz5 ≤ 20000 := by
        obtain ⟨od', ⟨N, last, H, hst, k1, k2, k3, k4, k5, k6⟩, _⟩ := HO10.out
        omega
      clear f91 f92 HO9 hk10 hkw9
      go_wp2_with fail
      refine (sift_any HO10.out hsz5 (by omega)).mono ?_
      rintro e w11 ⟨c11, sz11, rfl, hS11, hle, hk11⟩
      have HO11 : Hid (StO w11 s hb t bn bm blk 4 n 2000 n V2 (500000 + 100000 * n + 4000000 + 40000000 * 20001) c11 sz11) := hS11
      have f111 : Full w11 B1 m := f101.keeps hk11 nB1
      have f112 : Full w11 B2 m' := f102.keeps hk11 nB2
      have hkw11 : Keeps [] w w11 := ((hkw10.mono (by simp)).trans hk11).strike (fun i hi hlt => by have := ls4 i hi; omega)
      clear f101 f102 HO10 hk11 hkw10 hS11
      go_wp2_with fail
      refine (nodes_o HO11.out).mono ?_
      rintro e w12 ⟨rfl, hk12⟩
      have HO12 : Hid (StO w12 s hb t bn bm blk 4 n 2000 n V2 (500000 + 100000 * n + 4000000 + 40000000 * 20001) c11 sz11) := HO11.out.keeps hk12
      have f121 : Full w12 B1 m := f111.keeps hk12 (by simp)
      have f122 : Full w12 B2 m' := f112.keeps hk12 (by simp)
      have hkw12 := hkw11.trans hk12
      have hr12 := full_range f122
      clear f111 f112 HO11 hk12 hkw11
      go_wp2_with (first
        | (refine wpList_load_mid rfl 31 _ rfl B2 0 rfl (mL m') _ hr12 Try.underlying31 rfl size34 ?_)
        | fail)
      refine (values_o HO12.out HV'.out m'.2 HF'.out).mono ?_
      rintro e w13 ⟨rfl, hk13⟩
      have HO13 : Hid (StO w13 s hb t bn bm blk 4 n 2000 n V2 (500000 + 100000 * n + 4000000 + 40000000 * 20001) c11 sz11) := HO12.out.keeps hk13
      have f131 : Full w13 B1 m := f121.keeps hk13 (by simp)
      have f132 : Full w13 B2 m' := f122.keeps hk13 (by simp)
      have hkw13 := hkw12.trans hk13
      clear f121 f122 hr12 HO12 hk13 hkw12
      have hs13 : B1 < w13.heap.size := cell_lt (p := ⟨B1, 0, none⟩) f131.1
      have nums4 : ∀ (w : World) (x : Int), NumsIn (w.alloc (.cells #[.int .i64 0, .int .i64 1, .int .i64 2, .int .i64 x] 3)) w.heap.size 0 4 (fun k => if k < 3 then k else x) := by
        intro w x k hk
        have : k = 0 ∨ k = 1 ∨ k = 2 ∨ k = 3 := by omega
        rcases this with rfl | rfl | rfl | rfl <;> simp
      have NU : Hid (∀ (w : World) (x : Int), NumsIn (w.alloc (.cells #[.int .i64 0, .int .i64 1, .int .i64 2, .int .i64 x] 3)) w.heap.size 0 4 (fun k => if k < 3 then k else x)) := nums4
      clear nums4
      go_wp2_with fail
      have kA : Keeps [] w13 (w13.alloc (.cells #[.int .i64 0, .int .i64 1, .int .i64 2, .int .i64 3] 3)) := (Keeps.refl _ _).alloc _
      have nGA : w13.heap.size ∉ [t, bn, bm, blk] := fun hin => by have := lsB _ hin; omega
      refine (reorder_ok (cap := 4) (d := fun k => k) (HO13.out.keeps kA) ord4_id.ord ord4_id.all (fun k hk => by have := NU.out w13 3 k hk; rw [this]; congr 2; show (if (k : Int) < 3 then (k : Int) else 3) = (k : Int); split <;> omega) nGA hroom (by omega)).mono ?_
      rintro e w14 ⟨rfl, ⟨sz14, hS14⟩, hk14⟩
      have hback : sz14 = sz2 := hS14.size HO2.out (fun _ _ _ => rfl)
      subst hback
      have HO14 : Hid (StO w14 s hb t bn bm blk 4 n 2000 n V2 (500000 + 100000 * n + 4000000 + 40000000 * 20001 + 4000000) (fun k => k) sz14) := hS14
      have f141 : Full w14 B1 m := (f131.keeps kA (by simp)).keeps hk14 nB1
      have f142 : Full w14 B2 m' := (f132.keeps kA (by simp)).keeps hk14 nB2
      have hkw14 : Keeps [] w w14 := (((hkw13.trans kA).mono (by simp)).trans hk14).strike (fun i hi hlt => by have := ls4 i hi; omega)
      clear hS14 f131 f132 HO13 hk14 hkw13 kA nGA hs13
      go_wp2_with fail
      refine (nodes_o HO14.out).mono ?_
      rintro e w15 ⟨rfl, hk15⟩
      have HO15 : Hid (StO w15 s hb t bn bm blk 4 n 2000 n V2 (500000 + 100000 * n + 4000000 + 40000000 * 20001 + 4000000) (fun k => k) sz14) := HO14.out.keeps hk15
      have f151 : Full w15 B1 m := f141.keeps hk15 (by simp)
      have f152 : Full w15 B2 m' := f142.keeps hk15 (by simp)
      have hkw15 := hkw14.trans hk15
      clear f141 f142 HO14 hk15 hkw14
      go_wp2_with fail
      have kB : Keeps [] w15 (w15.alloc (.cells #[.int .i64 0, .int .i64 1, .int .i64 2, .int .i64 2] 3)) := (Keeps.refl _ _).alloc _
      refine (reorder_bad (cap := 4) (v := 3) (HO15.out.keeps kB) (NU.out w15 2) (by omega) (by omega) (fun j hj => by split <;> omega)).mono ?_
      rintro e w16 ⟨rfl, hk16⟩
      have hkk := kB.trans hk16
      have HO16 : Hid (StO w16 s hb t bn bm blk 4 n 2000 n V2 (500000 + 100000 * n + 4000000 + 40000000 * 20001 + 4000000) (fun k => k) sz14) := HO15.out.keeps hkk
      have f161 : Full w16 B1 m := f151.keeps hkk (by simp)
      have f162 : Full w16 B2 m' := f152.keeps hkk (by simp)
      have hkw16 := hkw15.trans hkk
      have hr16 := full_range f161
      clear f151 f152 HO15 hk16 hkw15 kB hkk
      go_wp2_with (first
        | (refine wpList_load_mid rfl 31 _ rfl B1 0 rfl (mL m) _ hr16 Try.underlying31 rfl size34 ?_)
        | fail)
      refine (values_o HO16.out HV.out m.2 HF.out).mono ?_
      rintro e w17 ⟨rfl, hk17⟩
      have z3 : Full w17 B1 m := f161.keeps hk17 (by simp)
      have z4 : Full w17 B2 m' := f162.keeps hk17 (by simp)
      have hkw17 := hkw16.trans hk17
      have hxx : (all16 m.2 m'.2 == all16 m.2 m'.2) = true := by simp
      have hle' : (sz11 : Int) ≤ (sz5 : Int) := by omega
      clear f161 f162 HO16 hk17 hkw16 hr16
      go_wp2_with (first
        | (refine wpList_load32 rfl _ rfl B1 m rfl z3 ?_)
        | (refine wpList_load32 rfl _ rfl B2 m' rfl z4 ?_)
        | (refine wpList_eql32 rfl _ _ rfl m.2 m'.2 rfl rfl ?_)
        | fail)
      go_ret
      exact ⟨rfl, hkw17⟩

end Go.Proofs.Ytmgjegokkbghlaa
