/- back: a run through the levels, the last moment first. -/
import Derived.Test.YtmgjegokkbghlaaGreatDoorExplo
namespace Go.Proofs.YtmgjegokkbghlaaGreatDoor
open Go.RowKit Go.Maps Bdd Circ Gram Runs
set_option linter.unusedVariables false
attribute [local go_sem ↓] Go.wp_at_zero Go.wp_at_succ

theorem infoMo : (Tryz.prog.info? 103).map (fun i => (i.zero, i.size, i.bytes)) = some (some (.agg #[.int .i64 0, .int .i64 0]), 2, 16) := by kernel_rfl
def wayC (l : List (Nat × Nat)) : List Value := l.flatMap fun p => [.int .i64 (p.1 : Int), .int .i64 (p.2 : Int)]
theorem wayC_snoc (l : List (Nat × Nat)) (p : Nat × Nat) : wayC (l ++ [p]) = wayC l ++ [.int .i64 (p.1 : Int), .int .i64 (p.2 : Int)] := by simp [wayC]
theorem wayC_len (l : List (Nat × Nat)) : (wayC l).length = l.length * 2 := by
  induction l with
  | nil => rfl
  | cons p r ih =>
    have : wayC (p :: r) = [.int .i64 (p.1 : Int), .int .i64 (p.2 : Int)] ++ wayC r := by simp [wayC]
    rw [this, List.length_append, ih]; simp; omega
theorem wayC_at {l : List (Nat × Nat)} {j : Nat} (hj : j < l.length) : (wayC l)[j * 2]? = some (.int .i64 (l[j].1 : Int)) ∧ (wayC l)[j * 2 + 1]? = some (.int .i64 (l[j].2 : Int)) := by
  induction l generalizing j with
  | nil => simp at hj
  | cons p r ih =>
    have e : wayC (p :: r) = .int .i64 (p.1 : Int) :: .int .i64 (p.2 : Int) :: wayC r := by simp [wayC]
    rw [e]
    cases j with
    | zero => simp
    | succ j =>
      have := ih (j := j) (by simpa using hj)
      rw [show (j + 1) * 2 = j * 2 + 1 + 1 by omega, show j * 2 + 1 + 1 + 1 = (j * 2 + 1) + 1 + 1 by omega]
      simpa using this
/-- a way in memory -/
def WayAt (w : World) (base : Nat) (a : Option Addr) (l : List (Nat × Nat)) : Prop := ∀ j (hj : j < l.length), ∃ g, a = some ⟨g, 0, none⟩ ∧ base ≤ g ∧ g < w.heap.size ∧ w.cell? ⟨g, j * 2, none⟩ = some (.int .i64 (l[j].1 : Int)) ∧ w.cell? ⟨g, j * 2 + 1, none⟩ = some (.int .i64 (l[j].2 : Int))
theorem WayAt.keeps {w w' : World} {B : Nat} {a : Option Addr} {l : List (Nat × Nat)} {S : List Nat} (h : WayAt w B a l) (hk : Keeps S w w') (hS : ∀ x ∈ S, x < B) : WayAt w' B a l := fun j hj => by
  obtain ⟨g, h1, h2, h3, h4, h5⟩ := h j hj
  have hg : g ∉ S := fun hin => by have := hS g hin; omega
  exact ⟨g, h1, h2, Nat.lt_of_lt_of_le h3 hk.size, hk.cell h4 hg, hk.cell h5 hg⟩
theorem WayAt.ofRow {w : World} {B k c : Nat} {a : Option Addr} {l : List (Nat × Nat)} (h : w.ownsRow B 103 2 (.slice a k c) k (wayC l)) (hl : l.length = k) : WayAt w B a l := fun j hj => by
  obtain ⟨k, rfl⟩ : ∃ k', k = k' + 1 := ⟨k - 1, by omega⟩
  obtain ⟨g, cap', hgv⟩ := own_slice h
  obtain ⟨rfl, rfl⟩ : a = some ⟨g, 0, none⟩ ∧ c = cap' := by simpa using hgv
  refine ⟨g, rfl, (h.lt g rfl).1, (h.lt g rfl).2, ?_, ?_⟩
  · rw [h.cellAt (j * 2) (by omega)]; exact (wayC_at hj).1
  · rw [h.cellAt (j * 2 + 1) (by omega)]; exact (wayC_at hj).2
theorem row_one {w : World} {B : Nat} (hB : B ≤ w.heap.size) (x y : Value) : (w.alloc (.cells #[x, y] 103)).ownsRow B 103 2 (.slice (some ⟨w.heap.size, 0, none⟩) 1 1) 1 [x, y] :=
  ⟨rfl, Or.inr ⟨w.heap.size, 1, #[x, y], rfl, hB, heap_alloc_new w _, by omega, by decide, rfl, rfl⟩⟩
theorem SomeIs.flat {L : Nat} {F : Fun} {f : Int} {e : Ending} (h : SomeIs L F f e) : ∃ (x : Nat) (b : Bool), e = .returned (.tuple #[.int .i64 (x : Int), .bool b]) ∧ (b = false → f = 0) ∧ (b = true → x < 2 ^ L ∧ F (asn L x) = true) := by
  rcases h with ⟨h0, rfl⟩ | ⟨h0, x, hx, hFx, rfl⟩
  · exact ⟨0, false, rfl, fun _ => h0, fun h => by cases h⟩
  · exact ⟨x, true, rfl, (fun h => by cases h), fun _ => ⟨hx, hFx⟩⟩
/-- what the outer loop keeps -/
def BackInv (w wr : World) (ls : List Ln) (m t bn bm K : Nat) (N : Tab) (rf rs0 rb : Int) (k d : Nat) (a : Option Addr) (c : Nat) (p : Nat × Nat) (r : List (Nat × Nat)) : Prop :=
  ∃ (N' : Tab) (KK : Nat), Chain (sysOf ls) (p :: r) ∧ lev (sysOf ls) d p.1 ∧ d + r.length = k ∧ wr.ownsRow (w.heap.size + 1) 103 2 (.slice a (r.length + 1) c) (r.length + 1) (wayC (p :: r).reverse) ∧ Mch wr m t bn bm KK N' ls rf rs0 rb ∧ KK ≤ K + r.length * 200000 ∧ Ext N N' ∧ Keeps [t, bn, bm] w wr

set_option maxRecDepth 100000 in
set_option maxHeartbeats 4000000 in
theorem back_any {w : World} {m t bn bm K : Nat} {N : Tab} {ls : List Ln} {rf rs0 rb : Int} (hg : Good ls) (h : Mch w m t bn bm K N ls rf rs0 rb) (hK : K ≤ 2000000000) {rs : List Int} {a : Option Addr} {c k s i B : Nat} (hrs : rs.length = k + 1) (hk15 : k ≤ 15) (hfs : FunS N ls rs) (hlv : LevAt w B a rs) (hB : t < B ∧ bn < B ∧ bm < B) (hls : lev (sysOf ls) k s) (hi : i < (sysOf ls).I) (hbad : (sysOf ls).bad s i = true) :
    Calls Tryz.prog 42 #[.pointer (some ⟨m, 0, none⟩), .slice a (k + 1) c, .agg #[.int .i64 (s : Int), .int .i64 (i : Int)]] w fun e w' => ∃ (p : Nat × Nat) (r : List (Nat × Nat)) (a' : Option Addr) (c' KK : Nat) (N' : Tab), e = .returned (.slice a' (k + 1) c') ∧ r.length = k ∧ Chain (sysOf ls) (p :: r) ∧ lev (sysOf ls) 0 p.1 ∧ WayAt w' (w.heap.size + 1) a' (p :: r).reverse ∧ Mch w' m t bn bm KK N' ls rf rs0 rb ∧ KK ≤ K + 4000000 ∧ Keeps [t, bn, bm] w w' := by
  obtain ⟨i0, hi0, hz0, hz1, hz2⟩ := info_parts infoMo
  have hml : 2000000 < maxLen := by decide
  have hbig : 10000000000 ≤ Big := by decide
  obtain ⟨b1, b2, b3⟩ := h.hd.blocks
  have hmw := h.hd.lt
  have hL4 := hg.nL
  have hI3 := hg.nI
  have HM := hid_intro h
  have HG := hid_intro hg
  have HRs := hid_intro hrs
  have HFs := hid_intro hfs
  have HLv := hid_intro hlv
  have HLs := hid_intro hls
  have HI := hid_intro hi
  have HBad := hid_intro hbad
  have hw2 : IntKind.i64.wrap ((k : Int) + 1 - 2) = (k : Int) - 1 := by rw [IntWalk.i64_in _ ⟨by omega, by omega⟩]; omega
  clear h hg hrs hfs hlv hls hi hbad
  go_enter Tryz.func42, Tryz.ntmps42
  go_wp2_with fail
  go_step3
  go_wp2_with fail
  go_step3
  go_wp2_with fail
  go_loopw [7, 8] (fun y7 y8 wr => ∃ (d : Nat) (a' : Option Addr) (n c' : Nat) (p : Nat × Nat) (r : List (Nat × Nat)), d ≤ k ∧ n = r.length + 1 ∧ y7 = .slice a' n c' ∧ y8 = .int .i64 ((d : Int) - 1) ∧ BackInv w wr ls m t bn bm K N rf rs0 rb k d a' c' p r) (fun _ y8 _ => (intOf y8 + 1).toNat)
  case atStart =>
    have hkE : Keeps [] w ((w.alloc (.cells #[.int .i64 (s : Int), .int .i64 (i : Int)] 103)).alloc (.cells #[.int .i64 (s : Int), .int .i64 (i : Int)] 103)) := ((Keeps.refl _ _).alloc _).alloc _
    have hm := HM.out.keeps hkE (by simp) (by simp) (by simp) (by simp)
    have hrow := row_one (w := w.alloc (.cells #[.int .i64 (s : Int), .int .i64 (i : Int)] 103)) (B := w.heap.size + 1) (by simp) (.int .i64 (s : Int)) (.int .i64 (i : Int))
    rw [World.size_alloc] at hrow
    exact ⟨k, _, 1, _, (s, i), [], Nat.le_refl _, rfl, rfl, rfl, N, K, ⟨HI.out, HBad.out⟩, HLs.out, by simp, hrow, hm, by simp, Ext.refl _, hkE.mono (by simp)⟩
  case round =>
    obtain ⟨d, a', n, c', p, r, hd, hn, rfl, rfl, N', KK, hch, hlv, hdk, hrow, hm, hKK, hext, hk⟩ := hrel
    have hrow : wr.ownsRow (w.heap.size + 1) 103 2 (.slice a' n c') n (wayC (p :: r).reverse) := by rw [hn]; exact hrow
    have hn16 : n ≤ 16 := by omega
    have HCh := hid_intro hch
    have HLd := hid_intro hlv
    have HRow := hid_intro hrow
    have HMq := hid_intro hm
    have HExt := hid_intro hext
    have HN := hid_intro hn
    have hbw : w.heap.size ≤ wr.heap.size := hk.size
    have hKn : KK + 200000 ≤ K + n * 200000 := by omega
    have hdn : d + n = k + 1 := by omega
    clear hch hlv hrow hm hext hn hKK hdk
    by_cases hd0 : d = 0
    · subst hd0
      have hneg : ¬ (0 : Int) ≤ ((0 : Nat) : Int) - 1 := by omega
      go_wp2_with fail
      go_ret
      obtain rfl : n = k + 1 := by omega
      have hn := HN.out
      exact ⟨p, r, a', c', KK, N', rfl, by omega, HCh.out, HLd.out, WayAt.ofRow HRow.out (by simp; omega), HMq.out, by omega, hk⟩
    · obtain ⟨d, rfl⟩ : ∃ d', d = d' + 1 := ⟨d - 1, by omega⟩
      have hde : ((d + 1 : Nat) : Int) - 1 = (d : Int) := by omega
      rw [hde]
      have hd1 : (0 : Int) ≤ (d : Int) := by omega
      obtain ⟨g, cap', hgv⟩ : ∃ g cap', Value.slice a' n c' = .slice (some ⟨g, 0, none⟩) n cap' := by
        obtain ⟨n', rfl⟩ : ∃ n', n = n' + 1 := ⟨n - 1, by have := HN.out; omega⟩
        exact own_slice HRow.out
      obtain ⟨rfl, rfl⟩ : a' = some ⟨g, 0, none⟩ ∧ c' = cap' := by simpa using hgv
      have hcell : wr.cell? ⟨g, (n - 1) * 2, none⟩ = some (.int .i64 (p.1 : Int)) := by
        have hn := HN.out
        have hl : (p :: r).reverse.length = n := by simp [hn]
        have := WayAt.ofRow HRow.out hl (n - 1) (by omega)
        obtain ⟨g', e, _, _, h4, _⟩ := this
        obtain rfl : g = g' := by simpa using e
        rw [h4]
        congr 3
        simp [hn]
      have hps : p.1 < 2 ^ (latches ls).length := by rw [← sys_S]; exact lev_lt HLd.out
      have hp16 : p.1 < 16 := Nat.lt_of_lt_of_le hps (two_pow_le hL4)
      have HPs := hid_intro hps
      obtain ⟨n1, hn1⟩ : ∃ n1, n = n1 + 1 := ⟨n - 1, by have := HN.out; omega⟩
      subst hn1
      rw [Nat.add_sub_cancel] at hcell
      have HC1 := hid_intro (into_any HMq.out.hd HMq.out.vs HMq.out.c4 (i := p.1) hp16 (by omega))
      clear hgv hps
      go_wp2_with fail
      refine Calls.mono HC1.out ?_
      rintro e w2 ⟨r2, N2, rfl, g1, g2, g3, g4⟩
      have hm2 := HMq.out.step g1 g2 g4
      have c2 := hm2.hd.c2
      have hrow2 := row_keeps HRow.out g4 (by intro i hi; simp at hi; omega)
      have HRow2 := hid_intro hrow2
      have G1 := hid_intro g1
      have G2 := hid_intro g2
      have G3 := hid_intro g3
      have HM2 := hid_intro hm2
      obtain ⟨gl, hga, hgB, hgl, hgc⟩ := HLv.out d (by have := HRs.out; omega)
      have hgc2 := (hk.trans g4).cell hgc (by simp; omega)
      obtain ⟨FL, hFL, hSL⟩ := HFs.out d (by have := HRs.out; omega)
      obtain ⟨rd, hrd⟩ : ∃ rd, rd = rs[d]'(by have := HRs.out; omega) := ⟨_, rfl⟩
      rw [← hrd] at hgc2 hFL
      have HFL := hid_intro hFL
      have HSL := hid_intro hSL
      have hkw2 : Keeps [t, bn, bm] w w2 := hk.trans g4
      have hdk1 : (d : Int) < (k : Int) + 1 := by omega
      subst hga
      clear HC1 g1 g2 g3 hm2 hrow2 hrd hFL hSL hgc hcell HRow
      go_wp2_with fail
      obtain ⟨P, hP⟩ : ∃ P : Nat, P = 2 ^ (named 1 ls).length := ⟨_, rfl⟩
      have hP8 : P ≤ 8 := by rw [hP]; exact two_pow_le hI3
      rw [wrap_pow _ (by omega), ← hP]
      have HP := hid_intro hP
      clear hP c2
      go_loopw [7, 36] (fun y7 x wq => ∃ (i K2 : Nat) (N3 : Tab), i ≤ P ∧ y7 = .slice (some ⟨g, 0, none⟩) (n1 + 1) c' ∧ x = .int .i64 i ∧ Mch wq m t bn bm K2 N3 ls rf rs0 rb ∧ K2 ≤ KK + 10000 + i * 20000 ∧ Ext N2 N3 ∧ (∀ x i', lev (sysOf ls) d x → i' < i → (sysOf ls).step x i' ≠ p.1) ∧ Keeps [t, bn, bm] w2 wq) (fun _ x _ => P - (intOf x).toNat)
      case atStart => exact ⟨0, KK + 10000, N2, by omega, rfl, rfl, HM2.out, by omega, Ext.refl _, fun _ _ _ h => by omega, Keeps.refl _ _⟩
      case round =>
        clear HM2
        obtain ⟨i, K2, N3, hi, rfl, rfl, hm, hK2, hext, hnb, hkq⟩ := hrel
        by_cases hiP : i < P
        · have hj0 : (0 : Int) ≤ (i : Int) := by omega
          have hj1 : (i : Int) < (P : Int) := by omega
          have hmd := hm.keeps (S := []) (Keeps.refl [] wr).drew (by simp) (by simp) (by simp) (by simp)
          have hgq := hkq.cell hgc2 (by simp; omega)
          have HMd := hid_intro hmd
          have HExq := hid_intro hext
          have HNb := hid_intro hnb
          have hset := HSL.out.and (into_set HG.out HPs.out i)
          have HSet := hid_intro hset
          have s0 : wr.drew.cell? ⟨gl, d, none⟩ = some (.int .i64 rd) ∧ True := ⟨hgq, trivial⟩
          clear hm hext hnb hmd hset
          go_wp2_with fail
          go_region_held3 (fun w' => w'.cell? ⟨gl, d, none⟩ = some (.int .i64 rd) ∧ True)
            (first | exact s0 | exact s1 | exact s2 | exact s3 | assumption)
            (first
              | (go_at_call 70; refine (given_any (i := i) HMd.out.hd (HExq.out _ _ G3.out) ?z0 ?z1).mono ?_; (case z0 => omega); (case z1 => omega); rintro e3 w3 ⟨r3, N4, rfl, a1, a2, a3, a4⟩; have s1 := And.intro (a4.cell s0.1 (by simp; omega)) trivial)
              | (go_at_call 34; refine (and_any a1 (a2 _ _ (HExq.out _ _ (G2.out _ _ (HExt.out _ _ HFL.out)))) a3 ?z2).mono ?_; (case z2 => omega); rintro e4 w4 ⟨r4, N5, rfl, q1, q2, q3, q4⟩; have s2 := And.intro (q4.cell s1.1 (by simp; omega)) trivial)
              | (go_at_call 69; refine (some_any q1 q3 HSet.out.near.low).mono ?_; rintro e5 w5 ⟨hsome, hk5⟩; have s3 := And.intro (hk5.cell s2.1 (by simp)) trivial; obtain ⟨x, b, rfl, hno, hyes⟩ := hsome.flat))
          have hm5 := (((HMd.out.step a1 a2 a4).step q1 q2 q4).keeps hk5 (by simp) (by simp) (by simp) (by simp))
          have hkf : Keeps [t, bn, bm] w2 w5 := (((hkq.drew).trans a4).trans q4).trans (hk5.mono (by simp))
          have hno2 : b = false → ∀ x, x < 2 ^ (latches ls).length → ¬ (lev (sysOf ls) d x ∧ (sysOf ls).step x i = p.1) := fun hb => (q1.none_iff q3 HSet.out).1 (hno hb)
          have hyes2 : b = true → lev (sysOf ls) d x ∧ (sysOf ls).step x i = p.1 := fun hb => (HSet.out.mem x (hyes hb).1).1 (hyes hb).2
          have HM5 := hid_intro hm5
          have HEx5 := hid_intro (a2.trans q2)
          have HNo := hid_intro hno2
          have HYes := hid_intro hyes2
          clear hm5 a1 a2 a3 q1 q2 q3 hno hyes hno2 hyes2 s0 s1 s2 s3 hsome
          cases b
          · go_wp2_with fail
            refine ⟨⟨i + 1, _, _, by omega, rfl, by go_num, HM5.out, by omega, HExq.out.trans HEx5.out, fun x i' hx hi' => ?_, hkf⟩, by simp [intOf]; omega⟩
            by_cases e : i' = i
            · subst e
              exact fun hs => HNo.out rfl x (by rw [← sys_S]; exact lev_lt hx) ⟨hx, hs⟩
            · exact HNb.out x i' hx (by omega)
          · have hrow5 := row_keeps HRow2.out hkf (by intro i hi; simp at hi; omega)
            have HRow5 := hid_intro hrow5
            have HChn := hid_intro (HYes.out rfl)
            have hsz5 : w.heap.size ≤ w5.heap.size := (hkw2.trans hkf).size
            clear hrow5
            go_wp2_with (first
              | (at_builtin; refine wpList_append_own_at _ rfl _ _ 107 rfl (w.heap.size + 1) 103 i0 (.agg #[.int .i64 0, .int .i64 0]) 2 16 Tryz.underlying107 hi0 hz0 hz1 hz2 rfl (by decide) _ (n1 + 1) (wayC (p :: r).reverse) rfl (HRow5.out.alloc _) ⟨w5.heap.size, 0, none⟩ 1 1 [.int .i64 (x : Int), .int .i64 (i : Int)] rfl rfl (cells_new _ _ _) (by simp [Value.oneCell']) (by omega) (by omega) (by simp; omega) ?_; intro v' w6 hown' hgrow hnil hloc; obtain ⟨g', cap', rfl⟩ := own_slice hown'; have HOW := hid_intro hown'; have HGR := hid_intro hgrow; clear hown' hgrow hloc hnil)
              | fail)
            have hch := HChn.out
            have hn := HN.out
            have hrw := HOW.out
            have hwc : wayC (p :: r).reverse ++ [.int .i64 (x : Int), .int .i64 (i : Int)] = wayC ((x, i) :: p :: r).reverse := by
              rw [← wayC_snoc (p :: r).reverse (x, i)]; simp
            rw [hwc] at hrw
            have hi2 : i < (sysOf ls).I := by rw [sys_I, ← HP.out]; exact hiP
            have hk6 := push_keeps HRow5.out HGR.out
            have hkw6 := push_old HRow5.out HGR.out (by omega) (hkw2.trans hkf)
            refine ⟨⟨d, some ⟨g', 0, none⟩, _, cap', (x, i), p :: r, by omega, ?_, rfl, by go_num, _, _, Chain.cons hi2 hch.2 HCh.out, hch.1, ?_, ?_, HM5.out.keeps hk6.1 (hk6.2 m (by omega)) (hk6.2 t (by omega)) (hk6.2 bn (by omega)) (hk6.2 bm (by omega)), ?_, HExt.out.trans (G2.out.trans (HExq.out.trans HEx5.out)), hkw6⟩, by first | (simp [intOf]; done) | (simp [intOf]; omega)⟩
            · simp; omega
            · simp; omega
            · rw [show (p :: r).length + 1 = n1 + 1 + 1 by simp; omega]; exact hrw
            · simp; omega
        · obtain rfl : i = P := by omega
          exfalso
          obtain ⟨x, i', h1, h2, h3⟩ := lev_prev HLd.out
          rw [sys_I, ← HP.out] at h2
          exact hnb x i' h1 h2 h3

end Go.Proofs.YtmgjegokkbghlaaGreatDoor
