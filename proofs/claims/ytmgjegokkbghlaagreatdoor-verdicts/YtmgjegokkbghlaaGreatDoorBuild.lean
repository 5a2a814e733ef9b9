/- build: the machine of a circuit. -/
import Derived.Test.YtmgjegokkbghlaaGreatDoorFunct
import Derived.Test.YtmgjegokkbghlaaGreatDoorMch
import Derived.Deep.CutRange
namespace Go.Proofs.YtmgjegokkbghlaaGreatDoor
open Go.RowKit Go.Maps Bdd Circ Gram Runs
set_option linter.unusedVariables false
attribute [local go_sem ↓] Go.wp_at_zero Go.wp_at_succ

/-- what the loop keeps -/
def BInv (W0 wr : World) (ls : List Ln) (L I m t bn bm j : Nat) : Prop := ∃ (rf rs : Int) (N : Tab) (KK : Nat), Mb wr m t bn bm L I KK N rf rs ∧ KK ≤ 10 + j * 20000000 ∧ Val N rf (firstF ls j) ∧ Val N rs (stepF ls j) ∧ Keeps [t, bn, bm, m] W0 wr

set_option maxRecDepth 100000 in
set_option maxHeartbeats 4000000 in
theorem build_any {w : World} {ls : List Ln} (hg : Good ls) {a0 : Option Addr} {n0 m0 : Nat} {a1 : Option Addr} {m1 : Nat} {a2 : Option Addr} {n2 m2 : Nat} (hc : CirAt w ls (.slice a0 n0 m0) a1 (.slice a2 n2 m2)) :
    Calls Tryz.prog 14 #[.agg #[.slice a0 n0 m0, .slice a1 (latches ls).length m1, .slice a2 n2 m2]] w fun e w' => ∃ m t bn bm K N rf rs rb, e = .returned (.pointer (some ⟨m, 0, none⟩)) ∧ Mch w' m t bn bm K N ls rf rs rb ∧ K ≤ 200000000 ∧ w.heap.size ≤ m ∧ w.heap.size ≤ t ∧ w.heap.size ≤ bn ∧ w.heap.size ≤ bm ∧ Keeps [] w w' := by
  have hL4 := hg.nL
  have hI3 := hg.nI
  obtain ⟨a0', c0', e0, hcap0, hmx0, hcell0⟩ := hc.ins
  obtain ⟨rfl, hn0, rfl⟩ : a0 = a0' ∧ n0 = (named 1 ls).length ∧ m0 = c0' := by simpa using e0
  obtain ⟨L, hL⟩ : ∃ L, L = (latches ls).length := ⟨_, rfl⟩
  obtain ⟨I, hI⟩ : ∃ I, I = (named 1 ls).length := ⟨_, rfl⟩
  rw [← hI] at hn0 hI3
  rw [← hL] at hL4 ⊢
  have hn1 := hn0.symm
  clear hn0
  subst hn1
  have HG := hid_intro hg
  have HC := hid_intro hc
  have HL := hid_intro hL
  have HI := hid_intro hI
  obtain ⟨B, hB⟩ : ∃ B, B = w.heap.size := ⟨_, rfl⟩
  obtain ⟨wb, hwb⟩ : ∃ wb, wb = w.alloc (.cells #[.slice a0 I m0, .slice a1 L m1, .slice a2 n2 m2] 52) := ⟨_, rfl⟩
  have HB := hid_intro hB
  have hkb : Keeps [] w wb := by rw [hwb]; exact (Keeps.refl _ _).alloc _
  have z0 : wb.cell? ⟨B, 0, none⟩ = some (.slice a0 I m0) := by rw [hwb, hB, World.cell?_alloc_at _ _ _ _ rfl]; rfl
  have z1 : wb.cell? ⟨B, 1, none⟩ = some (.slice a1 L m1) := by rw [hwb, hB, World.cell?_alloc_at _ _ _ _ rfl]; rfl
  have z2 : wb.cell? ⟨B, 2, none⟩ = some (.slice a2 n2 m2) := by rw [hwb, hB, World.cell?_alloc_at _ _ _ _ rfl]; rfl
  have hszb : B < wb.heap.size := by rw [hwb, hB]; simp
  clear hg hc hcell0 hcap0 hmx0 hL hI e0
  go_enter Tryz.func14, Tryz.ntmps14
  go_wp2_with fail
  rw [← hwb, ← hB]
  clear hwb hB
  have s0 : wb.drew.cell? ⟨B, 0, none⟩ = some (.slice a0 I m0) ∧ wb.drew.cell? ⟨B, 1, none⟩ = some (.slice a1 L m1) := ⟨z0, z1⟩
  go_region_held3 (fun w' => w'.cell? ⟨B, 0, none⟩ = some (.slice a0 I m0) ∧ w'.cell? ⟨B, 1, none⟩ = some (.slice a1 L m1))
    (first | exact s0 | exact s1 | exact s2 _ | assumption)
    (first | (go_at_call 32; refine (newTable_any (top := ((2 * L + I : Nat) : Int)) ?z0).mono ?_; (case z0 => omega); rintro e w1 ⟨t, bn, bm, rfl, ht, hbn, hbm, hT, hk1⟩; have s1 := And.intro (hk1.cell z0 (by simp)) (hk1.cell z1 (by simp)); have s2 := fun o => And.intro (((Keeps.refl [] w1).alloc o).cell s1.1 (by simp)) (((Keeps.refl [] w1).alloc o).cell s1.2 (by simp))))
  obtain ⟨m, hm⟩ : ∃ m, m = w1.heap.size := ⟨_, rfl⟩
  obtain ⟨wm, hwm⟩ : ∃ wm, wm = w1.alloc (.cells #[.pointer (some ⟨t, 0, none⟩), .int .i64 (L : Int), .int .i64 (I : Int), .int .i64 1, .int .i64 1, .int .i64 0] 90) := ⟨_, rfl⟩
  rw [← hwm, ← hm]
  have hkm : Keeps [] w1 wm := by rw [hwm]; exact (Keeps.refl _ _).alloc _
  have hkwm : Keeps [] w wm := (hkb.drew.trans hk1).trans hkm
  have hcm : ∀ q u, (#[.pointer (some ⟨t, 0, none⟩), .int .i64 (L : Int), .int .i64 (I : Int), .int .i64 1, .int .i64 1, .int .i64 0] : Array Value)[q]? = some u → wm.cell? ⟨m, q, none⟩ = some u := fun q u hu => by
    rw [hwm, hm, World.cell?_alloc_at _ _ _ _ rfl]; exact hu
  have hmb : Mb wm m t bn bm L I 10 (fun _ => none) 1 1 := by
    have hb1 : t < w1.heap.size := cell_lt (p := ⟨t, 0, none⟩) hT.c0
    have hb2 : bn < w1.heap.size := hT.names.lt
    have hb3 : bm < w1.heap.size := hT.nodes.lt
    have hT' := hT.keeps hkm (by simp) (by simp) (by simp)
    refine ⟨⟨⟨0, 1, hT', by omega, by omega⟩, by rw [hwm, hm]; simp, by simp; omega, hcm 0 _ rfl, hcm 1 _ rfl, hcm 2 _ rfl, hL4, hI3⟩, hcm 3 _ rfl, hcm 4 _ rfl, ⟨_, hcm 5 _ rfl⟩, fun q => ?_⟩
    rw [hwm, hm, World.frozen?_alloc_at _ _ _ _ rfl]
  have z0 := hkm.cell (hk1.cell z0 (by simp)) (by simp)
  have z1 := hkm.cell (hk1.cell z1 (by simp)) (by simp)
  have z2 := hkm.cell (hk1.cell z2 (by simp)) (by simp)
  have hsz : B < m := by rw [hm]; exact Nat.lt_of_lt_of_le hszb hk1.size
  have hBt : B < t ∧ B < bn ∧ B < bm := ⟨Nat.lt_of_lt_of_le hszb ht, Nat.lt_of_lt_of_le hszb hbn, Nat.lt_of_lt_of_le hszb hbm⟩
  have hcc := HC.out.keeps hkwm
  have hs1 : ∀ x ∈ latches ls, ByteArray.size x.name ≤ 1000 := fun x hx => by have := (HG.out.ok x (List.mem_filter.1 hx).1).name; omega
  have hs2 : ∀ x ∈ named 1 ls, ByteArray.size x ≤ 1000 := fun x hx => by
    obtain ⟨y, hy, rfl⟩ := List.mem_map.1 hx
    have := (HG.out.ok y (List.mem_filter.1 hy).1).name
    omega
  have HMb := hid_intro hmb
  have HC1 := hid_intro (levels_any hmb.hd hcc HL.out HI.out (m1 := m1) hs1 hs2)
  have hmm := hmb.hd.lt
  clear hcm hm hwm hkm hkb hk1 hT ht hbn hbm hszb s0 s1 s2 hmb hcc hs1 hs2
  go_wp2_with fail
  refine Calls.mono HC1.out ?_
  rintro e w2 ⟨M, nM, rfl, hMs, hMap, hk2⟩
  have hmb2 := HMb.out.keeps hk2 (by simp) (by simp) (by simp) (by simp)
  have hkw2 : Keeps [] w w2 := hkwm.trans hk2
  have HMap := hid_intro hMap
  have HMb2 := hid_intro hmb2
  have z1 := hk2.cell z1 (by simp)
  have z2 := hk2.cell z2 (by simp)
  have hMB : m < M ∧ t < M ∧ bn < M ∧ bm < M := by
    have := HMb.out.hd.blocks
    omega
  have hMw : M < w2.heap.size := hMap.lt
  have Z2 := hid_intro z2
  clear hmb2 hMap HC1 z0 HMb hMs hk2 hkwm z2
  go_wp2_with fail
  clear z1
  go_loopw [24] (fun x wr => ∃ j : Nat, j ≤ L ∧ x = .int .i64 j ∧ BInv w2 wr ls L I m t bn bm j) (fun x _ => L - (intOf x).toNat)
  case atStart =>
    have hv := val_one HMb2.out.hd
    exact ⟨0, by omega, rfl, 1, 1, _, 10, HMb2.out, by omega, hv, hv, Keeps.refl _ _⟩
  case round =>
    obtain ⟨j, hj, rfl, rf, rs, N, KK, hmb, hKK, hvf, hvs, hk⟩ := hrel
    have hkwr : Keeps [] w wr := ((hkw2.mono (by simp)).trans hk).strike (fun i hi hlt => by have hb0 := HB.out; simp at hi; omega)
    by_cases hjl : j < L
    · have hj0 : (0 : Int) ≤ (j : Int) := by omega
      have hj1 : (j : Int) < (L : Int) := by omega
      have hjl2 : j < (latches ls).length := by rw [← HL.out]; exact hjl
      obtain ⟨b, a, nn, c, ha, hb, q0, q1, q2, hws⟩ := HC.out.lat j hjl2
      have e0 := hkwr.cell q0 (by simp)
      have e1 := hkwr.cell q1 (by simp)
      have e2 := hkwr.cell q2 (by simp)
      have hnx := next_post HG.out.twice HG.out.lack (List.getElem_mem hjl2)
      rw [hnx.1] at hws
      have hnth := lat_nth hjl2
      obtain ⟨x, hx⟩ : ∃ x, x = (latches ls)[j] := ⟨_, rfl⟩
      rw [← hx] at e0 e1 hws hnth
      have hex : nextOf ls x.name = nxt ls j := by unfold nxt; rw [hnth]
      rw [hex] at hws
      have HWs := hid_intro hws
      have HNth := hid_intro hnth
      have HMq := hid_intro hmb
      have HVf := hid_intro hvf
      have HVs := hid_intro hvs
      subst ha
      clear q0 q1 q2 hx hws hnth hex hmb hvf hvs hnx
      go_upto_region 6 with fail
      obtain ⟨wa, hwa⟩ : ∃ wa, wa = wr.alloc (.cells #[.string x.name, .string x.first, .slice a nn c] 94) := ⟨_, rfl⟩
      obtain ⟨A, hA⟩ : ∃ A, A = wr.heap.size := ⟨_, rfl⟩
      rw [← hwa, ← hA]
      have hka : Keeps [] wr wa := by rw [hwa]; exact (Keeps.refl _ _).alloc _
      have x1 : wa.drew.cell? ⟨A, 1, none⟩ = some (.string x.first) := by
        show wa.cell? ⟨A, 1, none⟩ = _
        rw [hwa, hA, World.cell?_alloc_at _ _ _ _ rfl]; rfl
      have x2 : wa.cell? ⟨A, 2, none⟩ = some (.slice a nn c) := by rw [hwa, hA, World.cell?_alloc_at _ _ _ _ rfl]; rfl
      have hmA : m < A ∧ t < A ∧ bn < A ∧ bm < A := by
        have h1 := HMq.out.hd.lt
        have h2 := HMq.out.hd.blocks
        omega
      have hmd : Mb wa.drew m t bn bm L I KK N rf rs := (HMq.out.keeps hka (by simp) (by simp) (by simp) (by simp)).keeps (S := []) (Keeps.refl [] wa).drew (by simp) (by simp) (by simp) (by simp)
      have HMd := hid_intro hmd
      have c3 := hmd.c3
      have f3 := hmd.fz 3
      have hbig : 10000000000 ≤ Big := by decide
      have hKK4 : KK ≤ 100000000 := by omega
      have hoff := hid_intro hmd.hd.off
      clear hwa hA e0 e1 e2 hmd
      go_cut [24] from 24 to 81 (fun i wx => i = .int .i64 j ∧ ∃ (r4 : Int) (N4 : Tab), Mb wx m t bn bm L I (KK + 5000 + 4096) N4 r4 rs ∧ Val N4 r4 (firstF ls (j + 1)) ∧ Ext N N4 ∧ Keeps [t, bn, bm, m] wa wx)
      case first =>
        go_region_with (first
          | (go_at_call 35; refine (starts_any HMd.out.hd hjl x.first ?z0).mono ?_; (case z0 => omega); rintro e3 w3 ⟨r3, N3, rfl, g1, g2, g3, g4⟩; have c3' := g4.cell c3 hoff.out; have f3' := (g4.frozen (p := ⟨m, 3, none⟩) HMd.out.hd.lt hoff.out).trans f3)
          | (go_at_call 34; refine (and_any g1 (g2 _ _ HVf.out) g3 ?z1).mono ?_; (case z1 => omega); rintro e4 w4 ⟨r4, N4, rfl, p1, p2, p3, p4⟩; have c3'' := p4.cell c3' hoff.out; have f3'' := (p4.frozen (p := ⟨m, 3, none⟩) g1.lt hoff.out).trans f3'))
        all_goals
          go_wp2_with fail
          go_meet
        all_goals
          have hm4 := ((HMd.out.step g1 g4).step p1 p4).set3 r4
          refine ⟨rfl, r4, N4, hm4, ?_, g2.trans p2, ?_⟩
          · have hn := HNth.out
            rw [← hn] at p3
            exact p3
          · exact ((((Keeps.refl [t, bn, bm, m] wa).drew.trans (g4.mono (by intro i hi; simp at hi ⊢; omega))).trans (p4.mono (by intro i hi; simp at hi ⊢; omega)))).setCell _ (Or.inl (by simp)) _
      case rest =>
        obtain ⟨rfl, r4, N4, hm4, hvf4, hext4, hk4⟩ := hcut
        clear c3 f3 x1 HMd
        have x2c := hk4.cell x2 (by simp; omega)
        have hkwc : Keeps [t, bn, bm, m] w2 wc := (hk.trans (hka.mono (by simp))).trans hk4
        have hkw : Keeps [] w wc := ((hkw2.mono (by simp)).trans hkwc).strike (fun i hi hlt => by have hb0 := HB.out; simp at hi; omega)
        have hMc := HMap.out.keeps hkwc (by simp; omega)
        obtain ⟨hwf, hlen⟩ : (nxt ls j).wf ∧ (nxt ls j).post.length ≤ 2000 := by
          obtain ⟨_, y, hy, _, _, he⟩ := next_post HG.out.twice HG.out.lack (List.getElem_mem hjl2)
          have hok := HG.out.ok y hy
          have : nxt ls j = y.ex := by unfold nxt; rw [lat_nth hjl2, he]
          rw [this]
          exact ⟨hok.wf, by have := hok.len; omega⟩
        have hlev : ∀ x ∈ (nxt ls j).names, ∃ k, pairF (levL ls) x = some k ∧ 0 ≤ k ∧ k < ((2 * L + I : Nat) : Int) := fun x hx => by
          rw [HL.out, HI.out]
          exact level_of HG.out.twice (HG.out.next_in hjl2 x hx)
        have HC5 := hid_intro (function_any hm4.hd HWs.out hkw (by have hb0 := HB.out; omega) hwf hlen hMc (by simp; omega) hlev (by omega))
        have HM4 := hid_intro hm4
        have HVf4 := hid_intro hvf4
        have HExt4 := hid_intro hext4
        clear hm4 hvf4 hext4 hMc hlev hwf hlen x2 HMq HVf
        go_wp2_with fail
        refine Calls.mono HC5.out ?_
        rintro e5 w5 ⟨r5, N5, rfl, g1, g2, g3, g4⟩
        have hm5 := HM4.out.step g1 g4
        have hmd : Mb w5.drew m t bn bm L I (KK + 5000 + 4096 + 10000000) N5 r4 rs := hm5.keeps (S := []) (Keeps.refl [] w5).drew (by simp) (by simp) (by simp) (by simp)
        have HMd := hid_intro hmd
        have G2 := hid_intro g2
        have G3 := hid_intro g3
        have s0 : w5.drew.cell? ⟨m, 0, none⟩ = some (.pointer (some ⟨t, 0, none⟩)) ∧ w5.drew.cell? ⟨m, 1, none⟩ = some (.int .i64 (L : Int)) := ⟨hmd.hd.c0, hmd.hd.c1⟩
        have hwL : IntKind.i64.wrap ((L : Int) + (j : Int)) = (L : Int) + (j : Int) := IntWalk.i64_in _ ⟨by omega, by omega⟩
        clear g1 g2 g3 HC5 hm5 hmd HM4 x2c
        go_wp2_with fail
        go_region_held3 (fun w' => w'.cell? ⟨m, 0, none⟩ = some (.pointer (some ⟨t, 0, none⟩)) ∧ w'.cell? ⟨m, 1, none⟩ = some (.int .i64 (L : Int)))
          (first | exact s0 | exact s1 | assumption)
          (first | (go_at_call 37; refine (mvariable HMd.out.hd (i := (L : Int) + (j : Int)) ?z0 ?z1 ?z2).mono ?_; (case z0 => omega); (case z1 => omega); (case z2 => omega); rintro e6 w6 ⟨r6, N6, rfl, p1, p2, p3, p4⟩; have s1 := And.intro p1.c0 p1.c1))
        have hm6 := HMd.out.step p1 p4
        have P2' := hid_intro p2
        have P3 := hid_intro p3
        have HM6 := hid_intro hm6
        have hkf : Keeps [t, bn, bm, m] wc w6 := ((g4.drew.trans p4).mono (by intro i hi; simp at hi ⊢; omega))
        clear s0 s1 p1 p2 p3 hm6 HMd
        go_upto_region 9 with fail
        have hmd : Mb w6.drew m t bn bm L I (KK + 5000 + 4096 + 10000000 + 1) N6 r4 rs := HM6.out.keeps (S := []) (Keeps.refl [] w6).drew (by simp) (by simp) (by simp) (by simp)
        have HMd := hid_intro hmd
        have c0 := hmd.hd.c0
        have c4 := hmd.c4
        have f4 := hmd.fz 4
        clear hmd HM6
        go_region_with (first
          | (go_at_call 39; refine (mnot HMd.out.hd (P2'.out _ _ G3.out) ?z0).mono ?_; (case z0 => omega); rintro e7 w7 ⟨r7, N7, rfl, q1, q2, q3, q4⟩; have c07 := q1.c0; have c47 := q4.cell c4 hoff.out; have f47 := (q4.frozen (p := ⟨m, 4, none⟩) HMd.out.hd.lt hoff.out).trans f4)
          | (go_at_call 38; refine (mchoose q1 (q2 _ _ P3.out) (q2 _ _ (P2'.out _ _ G3.out)) q3 ?z1).mono ?_; (case z1 => omega); rintro e8 w8 ⟨r8, N8, rfl, y1, y2, y3, y4⟩; have c48 := y4.cell c47 hoff.out; have f48 := (y4.frozen (p := ⟨m, 4, none⟩) q1.lt hoff.out).trans f47)
          | (go_at_call 34; refine (and_any y1 (y2 _ _ (q2 _ _ (P2'.out _ _ (G2.out _ _ (HExt4.out _ _ HVs.out))))) y3 ?z2).mono ?_; (case z2 => omega); rintro e9 w9 ⟨r9, N9, rfl, v1, v2, v3, v4⟩; have c49 := v4.cell c48 hoff.out; have f49 := (v4.frozen (p := ⟨m, 4, none⟩) y1.lt hoff.out).trans f48))
        all_goals
          have hm9 := (((HMd.out.step q1 q4).step y1 y4).step v1 v4).set4 r9
          have hv9 : Val N9 r9 (stepF ls (j + 1)) := by
            have hL' := HL.out
            have e : stepF ls (j + 1) = fun a => stepF ls j a && (if a ((L : Int) + (j : Int)) then fnE (levP (levL ls)) (nxt ls j) a else !fnE (levP (levL ls)) (nxt ls j) a) := by
              funext a
              simp only [stepF]
              rw [← hL', Int.natCast_add]
            rw [e]
            exact v3
          have hk9 := (((((Keeps.refl [t, bn, bm, m] w6).drew.trans (q4.mono (by intro i hi; simp at hi ⊢; omega))).trans (y4.mono (by intro i hi; simp at hi ⊢; omega))).trans (v4.mono (by intro i hi; simp at hi ⊢; omega)))).setCell ⟨m, 4, none⟩ (Or.inl (by simp)) (.int .i64 r9)
          have HM9 := hid_intro hm9
          have HV9 := hid_intro hv9
          have HE9 := hid_intro ((q2.trans y2).trans v2)
          clear hm9 hv9 q1 q2 q3 y1 y2 y3 v1 v2 v3
          go_wp2_with fail
          exact ⟨⟨j + 1, by omega, by go_num, r4, r9, N9, _, HM9.out, by omega, HE9.out _ _ (P2'.out _ _ (G2.out _ _ HVf4.out)), HV9.out, (hkwc.trans hkf).trans hk9⟩, by simp [intOf]; omega⟩
    · obtain rfl : j = L := by omega
      have z2 := hk.cell Z2.out (by simp; omega)
      have hMc := HMap.out.keeps hk (by simp; omega)
      obtain ⟨hbp, y, hy, _, he⟩ := bad_post HG.out.twice HG.out.ok HG.out.bad
      have hok := HG.out.ok y hy
      have hws := HC.out.bad
      rw [hbp] at hws
      have hwf : (badOf ls).wf := by rw [he]; exact hok.wf
      have hlen : (badOf ls).post.length ≤ 2000 := by rw [he]; have := hok.len; omega
      have hlev : ∀ x ∈ (badOf ls).names, ∃ k, pairF (levL ls) x = some k ∧ 0 ≤ k ∧ k < ((2 * j + I : Nat) : Int) := fun x hx => by
        rw [HL.out, HI.out]
        exact level_of HG.out.twice (HG.out.bad_in x hx)
      have hbig : 10000000000 ≤ Big := by decide
      have HC5 := hid_intro (function_any hmb.hd hws hkwr (by have hb0 := HB.out; omega) hwf hlen hMc (by simp; omega) hlev (by omega))
      have HMq := hid_intro hmb
      have HVf := hid_intro hvf
      have HVs := hid_intro hvs
      clear hmb hvf hvs hMc hlev hwf hlen hws hbp he hok hy
      go_wp2_with fail
      refine Calls.mono HC5.out ?_
      rintro e5 w5 ⟨r5, N5, rfl, g1, g2, g3, g4⟩
      have hm5 := HMq.out.step g1 g4
      obtain ⟨v5, c5⟩ := hm5.c5
      have f5 := hm5.fz 5
      have HM5 := hid_intro hm5
      have G2 := hid_intro g2
      have G3 := hid_intro g3
      have C5 := hid_intro c5
      clear HC5 g1 g2 g3 hm5
      go_wp2_with fail
      go_ret
      have hLe := HL.out
      have hIe := HI.out
      subst hIe
      subst hLe
      have hb0 := HB.out
      have hkf : Keeps [t, bn, bm, m] w2 (w5.setCell ⟨m, 5, none⟩ (.int .i64 r5)) := (hk.trans (g4.mono (by intro i hi; simp at hi ⊢; omega))).setCell _ (Or.inl (by simp)) _
      refine ⟨m, t, bn, bm, _, N5, rf, rs, r5, rfl, ⟨HM5.out.hd.set (by omega) _, ?_, ?_, World.cell?_setCell_same _ _ _ C5.out, G2.out _ _ HVf.out, G2.out _ _ HVs.out, G3.out⟩, by omega, by omega, by omega, by omega, by omega, ((hkw2.mono (by simp)).trans hkf).strike (fun i hi hlt => by simp at hi; omega)⟩
      · rw [World.cell?_setCell_other _ _ _ _ (by simp)]; exact HM5.out.c3
      · rw [World.cell?_setCell_other _ _ _ _ (by simp)]; exact HM5.out.c4

end Go.Proofs.YtmgjegokkbghlaaGreatDoor
