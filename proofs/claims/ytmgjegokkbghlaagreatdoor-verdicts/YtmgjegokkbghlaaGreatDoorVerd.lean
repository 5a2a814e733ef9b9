/- verdict and Check. -/
import Derived.Test.YtmgjegokkbghlaaGreatDoorShown
import Derived.Test.YtmgjegokkbghlaaGreatDoorBuild
namespace Go.Proofs.YtmgjegokkbghlaaGreatDoor
open Go.RowKit Go.Maps Bdd Circ Gram Runs
set_option linter.unusedVariables false
attribute [local go_sem ↓] Go.wp_at_zero Go.wp_at_succ

/-- what a verdict may be -/
def VerdV (base : Nat) (w : World) (ls : List Ln) (v : Value) : Prop :=
  (v = .agg #[.bool true, .int .i64 (Runs.howMany (sysOf ls) : Int), .slice none 0 0, .slice none 0 0] ∧ ∀ j, ¬ BadAt (sysOf ls) j) ∨
  ∃ (k s0 : Nat) (is : List Nat) (S V : Nat) (bk : Nat → Nat), Runs.Told (sysOf ls) k s0 is ∧ k ≤ 15 ∧ v = .agg #[.bool false, .int .i64 0, .slice (some ⟨S, 0, none⟩) (latches ls).length (latches ls).length, .slice (some ⟨V, 0, none⟩) (k + 1) (k + 1)] ∧ MarksD w S (latches ls).length (dig (latches ls).length s0) ∧ Lists w V (named 1 ls).length (k + 1) 0 (fun j => dig (named 1 ls).length (is.getD j 0)) bk ∧ base ≤ V ∧ V < S ∧ (∀ j, j < k + 1 → bk j < S) ∧ S < w.heap.size
theorem VerdV.keeps {base : Nat} {w w' : World} {ls : List Ln} {v : Value} {S : List Nat} (h : VerdV base w ls v) (hk : Keeps S w w') (hS : ∀ x ∈ S, x < base) : VerdV base w' ls v := by
  rcases h with h | ⟨k, s0, is, A, V, bk, h1, h1b, h2, h3, h4, h5, h6, h7, h8⟩
  · exact Or.inl h
  · refine Or.inr ⟨k, s0, is, A, V, bk, h1, h1b, h2, h3.keeps hk h8 (fun hin => by have := hS A hin; omega), h4.keeps hk (by omega) (fun x hx _ => ?_), h5, h6, h7, Nat.lt_of_lt_of_le h8 hk.size⟩
    have := hS x hx
    refine ⟨by omega, fun j hj e => ?_⟩
    have := ((h4 j hj).2.2 (by omega)).2.2.1
    omega
theorem VerdV.low {base base' : Nat} {w : World} {ls : List Ln} {v : Value} (h : VerdV base w ls v) (hb : base' ≤ base) : VerdV base' w ls v := by
  rcases h with h | ⟨k, s0, is, A, V, bk, h1, h1b, h2, h3, h4, h5, h6, h7, h8⟩
  · exact Or.inl h
  · exact Or.inr ⟨k, s0, is, A, V, bk, h1, h1b, h2, h3, h4, by omega, h6, h7, h8⟩
theorem mcount {w : World} {m t bn bm L I K : Nat} {N : Tab} (h : Mk w m t bn bm L I K N) {f : Int} {F : Fun} (hv : Val N f F) {M : Runs.Sys} (hS : M.S = 2 ^ L) (hF : SetF L F (Rd M)) :
    Calls Tryz.prog 44 #[.pointer (some ⟨t, 0, none⟩), .int .i64 f, .int .i64 (L : Int)] w fun e w' => e = .returned (.int .i64 (Runs.howMany M : Int)) ∧ Keeps [] w w' := by
  obtain ⟨sz, last, hT, _, _⟩ := h.tab
  have hL := h.hL
  obtain ⟨N', hR, hv'⟩ := low_r (L := (L : Int)) hT (by omega) hv hF.near.low
  refine (tcount_r hR hv'.1).mono ?_
  rintro e w1 ⟨rfl, hk⟩
  refine ⟨?_, hk⟩
  have e1 : E N' f = F := funext hv'.2
  unfold cntv
  rw [e1, hF.count (by omega) hS]

theorem step_small {ls : List Ln} (hg : Good ls) {s : Nat} (h : s < (sysOf ls).S) : s < 16 := by
  rw [sys_S] at h
  exact Nat.lt_of_lt_of_le h (two_pow_le hg.nL)
theorem hway_small {ls : List Ln} (hg : Good ls) : ∀ {p : Nat × Nat} {r : List (Nat × Nat)} {k : Nat}, Chain (sysOf ls) (p :: r) → lev (sysOf ls) k p.1 → ∀ x ∈ p :: r, x.1 < 16 ∧ x.2 < 16 := by
  have key : ∀ (r : List (Nat × Nat)) (p : Nat × Nat), p.1 < (sysOf ls).S → Chain (sysOf ls) (p :: r) → ∀ x ∈ p :: r, x.1 < (sysOf ls).S := by
    intro r
    induction r with
    | nil => intro p hp _ x hx; simp at hx; subst hx; exact hp
    | cons q r ih =>
      intro p hp hc x hx
      rcases List.mem_cons.1 hx with rfl | hx
      · exact hp
      · refine ih q ?_ hc.2.2 x hx
        rw [← hc.2.1, sys_S]
        exact step_len ls _ _
  intro p r k hc hl x hx
  refine ⟨step_small hg (key r p (lev_lt hl) hc x hx), ?_⟩
  have := hc.ins x hx
  rw [sys_I] at this
  exact Nat.lt_of_lt_of_le this (Nat.le_trans (two_pow_le hg.nI) (by decide))

set_option maxRecDepth 100000 in
set_option maxHeartbeats 4000000 in
theorem verdict_any {w : World} {m t bn bm K : Nat} {N : Tab} {ls : List Ln} {rf rs0 rb : Int} (hg : Good ls) (h : Mch w m t bn bm K N ls rf rs0 rb) (hK : K ≤ 1000000000) :
    Calls Tryz.prog 15 #[.pointer (some ⟨m, 0, none⟩)] w fun e w' => ∃ v, e = .returned v ∧ VerdV w.heap.size w' ls v ∧ Keeps [t, bn, bm] w w' := by
  obtain ⟨b1, b2, b3⟩ := h.hd.blocks
  have hmw := h.hd.lt
  have hL4 := hg.nL
  have hI3 := hg.nI
  have hbig : 10000000000 ≤ Big := by decide
  obtain ⟨wa, hwa⟩ : ∃ wa, wa = w.alloc (.cells #[.bool false, .int .i64 0, .slice none 0 0, .slice none 0 0] 25) := ⟨_, rfl⟩
  obtain ⟨R, hR⟩ : ∃ R, R = w.heap.size := ⟨_, rfl⟩
  have hka : Keeps [] w wa := by rw [hwa]; exact (Keeps.refl _ _).alloc _
  have hRc : ∀ q u, (#[.bool false, .int .i64 0, .slice none 0 0, .slice none 0 0] : Array Value)[q]? = some u → wa.cell? ⟨R, q, none⟩ = some u := fun q u hu => by
    rw [hwa, hR, World.cell?_alloc_at _ _ _ _ rfl]; exact hu
  have hRf : ∀ q, wa.frozen? ⟨R, q, none⟩ = false := fun q => by rw [hwa, hR, World.frozen?_alloc_at _ _ _ _ rfl]
  have hsza : wa.heap.size = R + 1 := by rw [hwa, hR]; simp
  have hma := h.keeps hka (by simp) (by simp) (by simp) (by simp)
  have HRc := hid_intro hRc
  have HRf := hid_intro hRf
  have HG := hid_intro hg
  have HR := hid_intro hR
  have HSz := hid_intro hsza
  have hmR : m < R ∧ t < R ∧ bn < R ∧ bm < R := by omega
  have HC1 := hid_intro (explore_any hg hma hK)
  clear h hg hRc hRf hma hsza
  go_enter Tryz.func15, Tryz.ntmps15
  go_wp2_with fail
  rw [← hwa, ← hR]
  clear hwa hR
  refine Calls.mono HC1.out ?_
  rintro e w1 ⟨rs, N1, K1, a, c, hm1, hK1, hfs, hlv, hrl, hk1, hcase⟩
  have HM1 := hid_intro hm1
  have HFs := hid_intro hfs
  have HLv := hid_intro hlv
  clear hm1 hfs hlv HC1
  rcases hcase with ⟨k, s, i, hlen, hls, hi, hbad, hleast, rfl⟩ | ⟨hno, hnb, rfl⟩
  · have HLen := hid_intro hlen
    have HLs := hid_intro hls
    have HI := hid_intro hi
    have HBad := hid_intro hbad
    have HLe := hid_intro hleast
    rw [hlen]
    clear hlen hls hi hbad hleast
    have hk2 : Keeps [] w1 (w1.alloc (.cells #[.int .i64 (s : Int), .int .i64 (i : Int)] 103)) := (Keeps.refl _ _).alloc _
    have hsz1 : wa.heap.size ≤ w1.heap.size := hk1.size
    have HC2 := hid_intro (back_any (c := c) HG.out (HM1.out.keeps hk2 (by simp) (by simp) (by simp) (by simp)) (by omega) HLen.out (by have := HLen.out; omega) HFs.out ((HLv.out.keeps hk2 (by simp))) (by have := HSz.out; omega) HLs.out HI.out HBad.out)
    have hk15 : k ≤ 15 := by have := HLen.out; omega
    go_wp2_with fail
    refine Calls.mono HC2.out ?_
    rintro e w3 ⟨p, r, a', c', K3, N3, rfl, hrl3, hch, hp0, hway, hm3, hK3, hk3⟩
    have hkw3 : Keeps [t, bn, bm] wa w3 := (hk1.trans (hk2.mono (by simp))).trans hk3
    have hlt : ∀ x ∈ p :: r, x.1 < 16 ∧ x.2 < 16 := hway_small HG.out hch hp0
    have HCh := hid_intro hch
    have HP0 := hid_intro hp0
    have HM3 := hid_intro hm3
    have HRl := hid_intro hrl3
    have HC3 := hid_intro (shown_any (c := c') hm3.hd hrl3 hk15 hway hlt)
    clear HC2 hch hp0 hway hm3 hrl3 hlt
    go_wp2_with fail
    refine Calls.mono HC3.out ?_
    rintro e w4 ⟨⟨S, V, bk, rfl, hmS, hLs, hVb, hVS, hbS, hSw⟩, hk4⟩
    have hkw4 : Keeps [t, bn, bm] wa w4 := hkw3.trans (hk4.mono (by simp))
    have hsza := HSz.out
    have r0 := hkw4.cell (HRc.out 0 _ rfl) (by simp; omega)
    have r1 := hkw4.cell (HRc.out 1 _ rfl) (by simp; omega)
    have r2 := hkw4.cell (HRc.out 2 _ rfl) (by simp; omega)
    have r3 := hkw4.cell (HRc.out 3 _ rfl) (by simp; omega)
    have f0 := (hkw4.frozen (p := ⟨R, 0, none⟩) (by show R < wa.heap.size; omega) (by simp; omega)).trans (HRf.out 0)
    have f1 := (hkw4.frozen (p := ⟨R, 1, none⟩) (by show R < wa.heap.size; omega) (by simp; omega)).trans (HRf.out 1)
    have f2 := (hkw4.frozen (p := ⟨R, 2, none⟩) (by show R < wa.heap.size; omega) (by simp; omega)).trans (HRf.out 2)
    have f3 := (hkw4.frozen (p := ⟨R, 3, none⟩) (by show R < wa.heap.size; omega) (by simp; omega)).trans (HRf.out 3)
    have hsz3 := hkw3.size
    have HMS := hid_intro hmS
    have HLS := hid_intro hLs
    have HBS := hid_intro hbS
    have HKk := hid_intro hsza
    clear HC3 hmS hLs hbS hsza
    go_wp2_with fail
    obtain ⟨y0, y1, y2, y3⟩ := box_four r0 r1 r2 r3 (.bool false) (.int .i64 0) (.slice (some ⟨S, 0, none⟩) (latches ls).length (latches ls).length) (.slice (some ⟨V, 0, none⟩) (k + 1) (k + 1))
    have hk5 := boxed4_keeps w4 R (.bool false) (.int .i64 0) (.slice (some ⟨S, 0, none⟩) (latches ls).length (latches ls).length) (.slice (some ⟨V, 0, none⟩) (k + 1) (k + 1))
    unfold boxed4 at y0 y1 y2 y3 hk5
    refine bodyPost_ret (v := .agg #[.bool false, .int .i64 0, .slice (some ⟨S, 0, none⟩) (latches ls).length (latches ls).length, .slice (some ⟨V, 0, none⟩) (k + 1) (k + 1)]) (by simp [results, Tryz.results15, go_sem, y0, y1, y2, y3]; try rfl) rfl ?_
    have hR := HR.out
    have hsza := HKk.out
    have htold := HCh.out.told HRl.out ⟨s, i, HLs.out, HI.out, HBad.out⟩ HLe.out HP0.out
    refine ⟨_, rfl, ?_, ?_⟩
    · have hv : VerdV (R + 1) w4 ls (.agg #[.bool false, .int .i64 0, .slice (some ⟨S, 0, none⟩) (latches ls).length (latches ls).length, .slice (some ⟨V, 0, none⟩) (k + 1) (k + 1)]) := Or.inr ⟨k, p.1, (p :: r).map (·.2), S, V, bk, htold, hk15, rfl, HMS.out, HLS.out, by omega, hVS, HBS.out, hSw⟩
      exact (hv.keeps hk5 (by simp)).low (by omega)
    · exact ((((hka.mono (by simp)).trans hkw4).mono (S' := [t, bn, bm, R]) (by intro i hi; simp at hi ⊢; omega)).trans (hk5.mono (by simp))).strike (fun i hi hlt => by simp at hi ⊢; omega)
  · have HNo := hid_intro hno
    have HNB := hid_intro hnb
    clear hno hnb
    have hk2 : Keeps [] w1 (w1.alloc (.cells #[.int .i64 0, .int .i64 0] 103)) := (Keeps.refl _ _).alloc _
    obtain ⟨n, hn⟩ : ∃ n, n = rs.length := ⟨_, rfl⟩
    have HN := hid_intro hn
    rw [← hn]
    rw [← hn] at hrl
    clear hn
    have hsz1 : wa.heap.size ≤ w1.heap.size := hk1.size
    have hsza : R + 1 = wa.heap.size := HSz.out.symm
    go_wp2_with fail
    obtain ⟨wb, hwb⟩ : ∃ wb, wb = w1.alloc (.cells #[.int .i64 0, .int .i64 0] 103) := ⟨_, rfl⟩
    rw [← hwb] at hk2
    rw [← hwb]
    have hmb := HM1.out.keeps hk2 (by simp) (by simp) (by simp) (by simp)
    have HMb := hid_intro hmb
    have HLv2 := hid_intro (HLv.out.keeps hk2 (by simp))
    clear hwb hmb
    go_loopw [6, 24] (fun y6 x wr => ∃ (j K2 : Nat) (N2 : Tab) (r : Int) (F : Fun), j ≤ n ∧ y6 = .int .i64 r ∧ x = .int .i64 j ∧ Mch wr m t bn bm K2 N2 ls rf rs0 rb ∧ K2 ≤ K1 + j * 10000 ∧ Ext N1 N2 ∧ Val N2 r F ∧ SetF (latches ls).length F (bef (sysOf ls) j) ∧ Keeps [t, bn, bm] wb wr) (fun _ x _ => n - (intOf x).toNat)
    case atStart => exact ⟨0, K1, N1, 0, _, by omega, rfl, rfl, HMb.out, by omega, Ext.refl _, val_zero HMb.out.hd, bef_first ls, Keeps.refl _ _⟩
    case round =>
      clear HMb
      obtain ⟨j, K2, N2, r, F, hj, rfl, rfl, hm, hK2, hext, hvr, hF, hk⟩ := hrel
      by_cases hjn : j < n
      · have hj0 : (0 : Int) ≤ (j : Int) := by omega
        have hj1 : (j : Int) < (n : Int) := by omega
        have hjr : j < rs.length := by rw [← HN.out]; exact hjn
        obtain ⟨g, hga, hgB, hgl, hgc⟩ := HLv2.out j hjr
        have hgc2 := hk.cell hgc (by simp; omega)
        obtain ⟨FL, hFL, hSL⟩ := HFs.out j hjr
        obtain ⟨rd, hrd⟩ : ∃ rd, rd = rs[j] := ⟨_, rfl⟩
        rw [← hrd] at hgc2 hFL
        have HC4 := hid_intro (or_any hm.hd hvr (hext _ _ hFL) (by omega))
        have HMq := hid_intro hm
        have HExt := hid_intro hext
        have HF := hid_intro hF
        have HSL := hid_intro hSL
        subst hga
        clear hm hext hF hvr hSL hFL hrd hgc
        go_wp2_with fail
        refine Calls.mono HC4.out ?_
        rintro e w5 ⟨r5, N5, rfl, g1, g2, g3, g4⟩
        have G1 := hid_intro g1
        have G2 := hid_intro g2
        have G3 := hid_intro g3
        clear HC4 g1 g2 g3 hgc2
        go_wp2_with fail
        exact ⟨⟨j + 1, _, N5, r5, _, by omega, rfl, by go_num, HMq.out.step G1.out G2.out g4, by omega, HExt.out.trans G2.out, G3.out, bef_next HF.out HSL.out, hk.trans g4⟩, by simp [intOf]; omega⟩
      · obtain rfl : j = n := by omega
        have hno : ∀ s, ¬ lev (sysOf ls) j s := by have := HNo.out; rw [← HN.out] at this; exact this
        have hSF : SetF (latches ls).length F (Rd (sysOf ls)) := hF.congr (fun s hs => (rd_iff hno s).symm)
        have hkw : Keeps [t, bn, bm] wa wr := (hk1.trans (hk2.mono (by simp))).trans hk
        have hmd := hm.keeps (S := []) (Keeps.refl [] wr).drew (by simp) (by simp) (by simp) (by simp)
        have s0 : wr.drew.cell? ⟨m, 0, none⟩ = some (.pointer (some ⟨t, 0, none⟩)) ∧ wr.drew.cell? ⟨m, 1, none⟩ = some (.int .i64 ((latches ls).length : Int)) := ⟨hm.hd.c0, hm.hd.c1⟩
        have r0 := hkw.cell (HRc.out 0 _ rfl) (by simp; omega)
        have r1 := hkw.cell (HRc.out 1 _ rfl) (by simp; omega)
        have r2 := hkw.cell (HRc.out 2 _ rfl) (by simp; omega)
        have r3 := hkw.cell (HRc.out 3 _ rfl) (by simp; omega)
        have f0 := (hkw.frozen (p := ⟨R, 0, none⟩) (by show R < wa.heap.size; omega) (by simp; omega)).trans (HRf.out 0)
        have f1 := (hkw.frozen (p := ⟨R, 1, none⟩) (by show R < wa.heap.size; omega) (by simp; omega)).trans (HRf.out 1)
        have f2 := (hkw.frozen (p := ⟨R, 2, none⟩) (by show R < wa.heap.size; omega) (by simp; omega)).trans (HRf.out 2)
        have f3 := (hkw.frozen (p := ⟨R, 3, none⟩) (by show R < wa.heap.size; omega) (by simp; omega)).trans (HRf.out 3)
        have hszr : wa.heap.size ≤ wr.heap.size := hkw.size
        have HMd := hid_intro hmd
        have HSF := hid_intro hSF
        have HVr := hid_intro hvr
        clear hm hmd hSF hno hext hF hvr
        go_wp2_with fail
        go_region_held3 (fun w' => w'.cell? ⟨m, 0, none⟩ = some (.pointer (some ⟨t, 0, none⟩)) ∧ w'.cell? ⟨m, 1, none⟩ = some (.int .i64 ((latches ls).length : Int)))
          (first | exact s0 | exact s1 | exact s2 _ _ _ _ | assumption)
          (first | (go_at_call 44; refine (mcount HMd.out.hd HVr.out (sys_S ls) HSF.out).mono ?_; rintro e6 w6 ⟨rfl, hk6⟩; have s1 := And.intro (hk6.cell s0.1 (by simp)) (hk6.cell s0.2 (by simp)); have s2 := fun (v0 v1 v2 v3 : Value) => And.intro ((boxed4_keeps w6 R v0 v1 v2 v3).cell s1.1 (by simp; omega)) ((boxed4_keeps w6 R v0 v1 v2 v3).cell s1.2 (by simp; omega)); have q0 := hk6.cell (p := ⟨R, 0, none⟩) r0 (by simp); have q1 := hk6.cell (p := ⟨R, 1, none⟩) r1 (by simp); have q2 := hk6.cell (p := ⟨R, 2, none⟩) r2 (by simp); have q3 := hk6.cell (p := ⟨R, 3, none⟩) r3 (by simp); have x0 := (hk6.frozen (p := ⟨R, 0, none⟩) (by show R < wr.heap.size; omega) (by simp)).trans f0; have x1 := (hk6.frozen (p := ⟨R, 1, none⟩) (by show R < wr.heap.size; omega) (by simp)).trans f1; have x2 := (hk6.frozen (p := ⟨R, 2, none⟩) (by show R < wr.heap.size; omega) (by simp)).trans f2; have x3 := (hk6.frozen (p := ⟨R, 3, none⟩) (by show R < wr.heap.size; omega) (by simp)).trans f3))
        clear s0 s1 s2
        go_wp2_with fail
        obtain ⟨y0, y1, y2, y3⟩ := box_four q0 q1 q2 q3 (.bool true) (.int .i64 (Runs.howMany (sysOf ls) : Int)) (.slice none 0 0) (.slice none 0 0)
        have hk5 := boxed4_keeps w6 R (.bool true) (.int .i64 (Runs.howMany (sysOf ls) : Int)) (.slice none 0 0) (.slice none 0 0)
        unfold boxed4 at y0 y1 y2 y3 hk5
        refine bodyPost_ret (v := .agg #[.bool true, .int .i64 (Runs.howMany (sysOf ls) : Int), .slice none 0 0, .slice none 0 0]) (by simp [results, Tryz.results15, go_sem, y0, y1, y2, y3]; try rfl) rfl ?_
        have hR := HR.out
        have hno : ∀ s, ¬ lev (sysOf ls) j s := by have := HNo.out; rw [← HN.out] at this; exact this
        have hnb : ∀ i, i < j → ¬ BadAt (sysOf ls) i := by have := HNB.out; rw [← HN.out] at this; exact this
        refine ⟨_, rfl, Or.inl ⟨rfl, no_bad hno hnb⟩, ?_⟩
        exact ((((hka.mono (by simp)).trans (hkw.drew.trans (hk6.mono (by simp)))).mono (S' := [t, bn, bm, R]) (by intro i hi; simp at hi ⊢; omega)).trans (hk5.mono (by simp))).strike (fun i hi hlt => by simp at hi ⊢; omega)

end Go.Proofs.YtmgjegokkbghlaaGreatDoor
