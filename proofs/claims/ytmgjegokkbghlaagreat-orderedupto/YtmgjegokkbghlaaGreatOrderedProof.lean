/- The law: Order asked of both stores; Reorder, Sift of both. The law: a call of any kind up to Sift; the script. The proof of what is said of Ordered, where what it reads is of bulk at most 1048576. -/
import Derived.Test.YtmgjegokkbghlaaGreatLawP
import Derived.Test.YtmgjegokkbghlaaGreatRefOrd
import Derived.WalkKit
import Derived.ProofKit
import Derived.OpenShut
import Derived.ShutString
import Derived.ChangeOld
import Derived.Below
import Derived.SizedLaws
import Derived.JoinedCond
import Derived.Deep.CondSized
namespace Go.Proofs.YtmgjegokkbghlaaGreat
open Go.RowKit Go.Maps Bdd
attribute [local go_sem ↓] Go.wp_at_zero Go.wp_at_succ
set_option linter.unusedVariables false

set_option maxRecDepth 100000 in
set_option maxHeartbeats 2000000 in
theorem asks17 {w0 w : World} {own : Own} {W K i : Nat} {ps : List Pr} {hs : List Nat} {x : Pr} (hW : WAt w0 w own W ps hs K) (hK : K ≤ 4000000000000) (hx : ps[i]? = some x) {m a b c : Int} {l v : Value} :
    Calls Tryz.prog 19 #[ptr W, .agg #[ptr x.p, ptr x.q, ptr x.r], opV 17 m a b c l v] w fun e w' => e = .returned (.bool true) ∧ (∃ own' h, WAt w0 w' own' W ps (hs ++ [h]) (K + 1)) ∧ Free own w w' := by
  have HW : Hid (WAt w0 w own W ps hs K) := hW
  obtain ⟨hA, _, hp, hq, hr⟩ := hW.prs i x trivial hx
  obtain ⟨wb, hwb⟩ : ∃ wb, wb = boxed w x.p x.q x.r 17 m a b c l v := ⟨_, rfl⟩
  have hkb : Keeps [] w wb := by rw [hwb]; exact boxed_keeps ..
  have x0 : wb.cell? ⟨w.heap.size, 0, none⟩ = some (.pointer (some ⟨x.p, 0, none⟩)) := by rw [hwb]; exact boxed_pair _ _ _ _ _ _ _ _ _ _ _ 0 _ rfl
  have x2 : wb.cell? ⟨w.heap.size, 2, none⟩ = some (.pointer (some ⟨x.r, 0, none⟩)) := by rw [hwb]; exact boxed_pair _ _ _ _ _ _ _ _ _ _ _ 2 _ rfl
  have o0 : wb.cell? ⟨w.heap.size + 1, 0, none⟩ = some (.int .i64 17) := by rw [hwb]; exact boxed_op _ _ _ _ _ _ _ _ _ _ _ 0 _ rfl
  have hn8 := hA.n8
  have hn1 := hA.n1
  obtain ⟨ob, ocap, r3, hro⟩ : ∃ ob ocap, wb.cell? ⟨x.r, 3, none⟩ = some (.slice (some ⟨ob, 0, none⟩) x.A.n ocap) ∧ ∀ k : Nat, k < x.A.n → wb.cell? ⟨ob, k, none⟩ = some (.int .i64 (x.A.o (k : Int))) := by
    obtain ⟨ov, lv, ⟨o, ho, hR⟩, _⟩ := hr
    obtain ⟨ob, cap, e, _, _, hc⟩ := hR.ord
    refine ⟨ob, cap, by rw [← e]; exact hkb.cell hR.c3 (by simp), fun k hk => ?_⟩
    have := hkb.cell (hc k hk) (by simp)
    rw [Nat.zero_add, ho k (by omega) (by omega)] at this
    exact this
  have HP : Hid (Calls Tryz.prog 46 #[.pointer (some ⟨x.p, 0, none⟩)] wb fun e w' => ∃ v, e = .returned v ∧ w'.ownsRow wb.heap.size 3 1 v x.A.n (rowF x.A.n (fun k => x.A.o (k : Int))) ∧ Keeps [] wb w') := ps_order (hp.keeps hkb (own' := own) (fun _ _ e => e))
  have HKT : Hid (∀ (w1 : World) (v : Value) (n : Nat) (f : Nat → Int), Keeps [] w w1 → n ≤ 8 → w1.ownsRow wb.heap.size 3 1 v n (rowI n f) → Calls Tryz.prog 64 #[.pointer (some ⟨W, 0, none⟩), v] w1 fun e w' => e = .returned (.tuple #[]) ∧ (∃ own' h, WAt w0 w' own' W ps (hs ++ [h]) (K + 1)) ∧ Free own w w') := fun w1 v n f hk hn hown => by
    have hs1 := hk.size
    refine Calls.mono (keepInts_any (own := newOwn own w (0, 0)) (HW.out.keeps hk (fun b tg hb _ e => by rw [newOwn_old hb]; exact e)) (by omega) (base := 0) (row_mono hown (Nat.zero_le _)) (Nat.zero_le _) (by omega) (fun g' e => newOwn_new (by have h1 := (hown.lt g' e).1; have h2 := hkb.size; omega))) ?_
    rintro e w' ⟨rfl, own', h, h1, h2, _, _⟩
    refine ⟨rfl, ⟨own', h, h1⟩, fun p u h0 hc => h2 p u (by rw [newOwn_old (cell_lt hc), h0]; simp) (fun e => ?_) (hk.cell hc (by simp))⟩
    have h3 := (hown.lt _ e).1
    have h4 := hkb.size
    have h5 := cell_lt hc
    omega
  have HRO : Hid (∀ k : Nat, k < x.A.n → wb.cell? ⟨ob, k, none⟩ = some (.int .i64 (x.A.o (k : Int)))) := hro
  obtain ⟨n, hnn⟩ : ∃ n, n = x.A.n := ⟨_, rfl⟩
  rw [← hnn] at HP HRO r3 hn8 hn1
  obtain ⟨p, hp'⟩ : ∃ p, p = x.p := ⟨_, rfl⟩
  obtain ⟨q, hq'⟩ : ∃ q, q = x.q := ⟨_, rfl⟩
  obtain ⟨r, hr'⟩ : ∃ r, r = x.r := ⟨_, rfl⟩
  rw [← hp'] at HP x0 hwb ⊢
  rw [← hr'] at r3 x2 hwb ⊢
  rw [← hq'] at hwb ⊢
  clear hA hp hq hr hp' hq' hr' hW hx hnn hro
  show Calls Tryz.prog 19 #[.pointer (some ⟨W, 0, none⟩), .agg #[.pointer (some ⟨p, 0, none⟩), .pointer (some ⟨q, 0, none⟩), .pointer (some ⟨r, 0, none⟩)], .agg #[.int .i64 17, .int .i64 m, .int .i64 a, .int .i64 b, .int .i64 c, l, v]] w _
  unfold boxed opC ptr at hwb
  go_enter Tryz.func19, Tryz.ntmps19
  go_wp2_with fail
  rw [← hwb]
  clear hwb
  refine HP.out.mono ?_
  rintro e w1 ⟨v1, rfl, hrow1, hk1⟩
  have y2 := hk1.cell x2 (by simp)
  have y3 := hk1.cell r3 (by simp)
  obtain ⟨g1, c1, rfl⟩ := row_sliceS hrow1 (by omega)
  have HROW : Hid (w1.ownsRow wb.heap.size 3 1 (.slice (some ⟨g1, 0, none⟩) n c1) n (rowF n (fun k => x.A.o (k : Int)))) := hrow1
  have hS := sameInts_any (w := w1) (n := n) (g := g1) (g' := ob) (cap := c1) (cap' := ocap) (f := fun k => x.A.o (k : Int)) (by omega) (fun j hj => by rw [World.ownsRow.cellAt hrow1 j (by omega), rowF_get _ hj]) (fun j hj => hk1.cell (HRO.out j hj) (by simp))
  have HS : Hid (Calls Tryz.prog 63 #[.slice (some ⟨g1, 0, none⟩) n c1, .slice (some ⟨ob, 0, none⟩) n ocap] w1 fun e w' => e = .returned (.bool true) ∧ Keeps [] w1 w') := hS
  clear hrow1 hS
  go_wp2_with fail
  refine HS.out.mono ?_
  rintro e w3 ⟨rfl, hk3⟩
  have hkk := HKT.out w3 (.slice (some ⟨g1, 0, none⟩) n c1) n (fun k => x.A.o (k : Int)) ((hkb.trans hk1).trans hk3) hn8 (row_keeps HROW.out hk3 (by simp))
  go_wp2_with fail
  refine hkk.mono ?_
  rintro e w4 ⟨rfl, hfin⟩
  have HFIN : Hid ((∃ own' h, WAt w0 w4 own' W ps (hs ++ [h]) (K + 1)) ∧ Free own w w4) := hfin
  clear hfin hkk
  go_wp2_with fail
  go_ret
  exact ⟨rfl, HFIN.out⟩

set_option maxRecDepth 100000 in
set_option maxHeartbeats 2000000 in
theorem orders19 {w0 w : World} {own : Own} {W K i : Nat} {ps : List Pr} {hs : List Nat} {x : Pr} (hW : WAt w0 w own W ps hs K) (hK : K ≤ 4000000000000) (hx : ps[i]? = some x) {m a b c : Int} {l v : Value} :
    Calls Tryz.prog 18 #[ptr W, .agg #[ptr x.p, ptr x.q, ptr x.r], opV 19 m a b c l v] w fun e w' => e = .returned (.bool true) ∧ (∃ own', WAt w0 w' own' W (ps.set i ⟨x.p, x.q, x.r, { x.A with o := siftO x.A }⟩) hs (K + 8000500)) ∧ Free own w w' := by
  obtain ⟨hA, hla, hp, hq, hr⟩ := hW.prs i x trivial hx
  obtain ⟨wb, hwb⟩ : ∃ wb, wb = boxed w x.p x.q x.r 19 m a b c l v := ⟨_, rfl⟩
  have hkb : Keeps [] w wb := by rw [hwb]; exact boxed_keeps ..
  have x0 : wb.cell? ⟨w.heap.size, 0, none⟩ = some (.pointer (some ⟨x.p, 0, none⟩)) := by rw [hwb]; exact boxed_pair _ _ _ _ _ _ _ _ _ _ _ 0 _ rfl
  have x1 : wb.cell? ⟨w.heap.size, 1, none⟩ = some (.pointer (some ⟨x.q, 0, none⟩)) := by rw [hwb]; exact boxed_pair _ _ _ _ _ _ _ _ _ _ _ 1 _ rfl
  have x2 : wb.cell? ⟨w.heap.size, 2, none⟩ = some (.pointer (some ⟨x.r, 0, none⟩)) := by rw [hwb]; exact boxed_pair _ _ _ _ _ _ _ _ _ _ _ 2 _ rfl
  have o0 : wb.cell? ⟨w.heap.size + 1, 0, none⟩ = some (.int .i64 19) := by rw [hwb]; exact boxed_op _ _ _ _ _ _ _ _ _ _ _ 0 _ rfl
  obtain ⟨own1, hown1⟩ : ∃ own1, own1 = newOwn own w (0, 0) := ⟨_, rfl⟩
  have ob : own1 w.heap.size = (0, 0) := by rw [hown1]; exact newOwn_new (Nat.le_refl _)
  have hWb : WX (fun j => j ≠ i) w0 wb own1 W ps hs K := (hW.keeps hkb (fun b tg hb _ e => by rw [hown1]; exact newOwn_stays hb e)).sub (fun _ _ => trivial)
  have hpb : PS wb own1 (2, i) x.p x.A (1 + 100000 * (K : Int)) := hp.keeps hkb (fun b hb e => by rw [hown1]; exact newOwn_stays hb e)
  have hqb : PS wb own1 (3, i) x.q x.A (1 + 100000 * (K : Int)) := hq.keeps hkb (fun b hb e => by rw [hown1]; exact newOwn_stays hb e)
  have hrb : RW wb own1 (4, i) x.r x.A := hr.keeps hA hkb (fun b hb e => by rw [hown1]; exact newOwn_stays hb e)
  have HF : Hid (∀ (p : Addr) (u : Value), own p.block = (0, 3) → w.cell? p = some u → own1 p.block = (0, 3) ∧ wb.cell? p = some u) := fun p u h0 hc => ⟨by rw [hown1]; exact newOwn_stays (cell_lt hc) h0, hkb.cell hc (by simp)⟩
  have HX : Hid (ps[i]? = some x) := hx
  have HAO : Hid (AbsOk x.A ∧ x.A.la ≤ (K : Int)) := ⟨hA, hla⟩
  have HWB : Hid (WX (fun j => j ≠ i) w0 wb own1 W ps hs K) := hWb
  have HQB : Hid (PS wb own1 (3, i) x.q x.A (1 + 100000 * (K : Int))) := hqb
  have HRB : Hid (RW wb own1 (4, i) x.r x.A) := hrb
  have HP : Hid (Calls Tryz.prog 45 #[.pointer (some ⟨x.p, 0, none⟩)] wb fun e w' => e = .returned (.tuple #[]) ∧ PS w' (newOwn own1 wb (2, i)) (2, i) x.p { x.A with o := siftO x.A } (1 + 100000 * (K : Int) + 40000000 * 20001) ∧ Only own1 (2, i) wb w' ∧ Sifted x.A) := ps_sift hA hpb (by omega)
  obtain ⟨p, hp'⟩ : ∃ p, p = x.p := ⟨_, rfl⟩
  obtain ⟨q, hq'⟩ : ∃ q, q = x.q := ⟨_, rfl⟩
  obtain ⟨r, hr'⟩ : ∃ r, r = x.r := ⟨_, rfl⟩
  rw [← hp'] at HP x0 hwb ⊢
  rw [← hr'] at HRB x2 hwb ⊢
  rw [← hq'] at HQB x1 hwb ⊢
  have HPQR : Hid (x = ⟨p, q, r, x.A⟩) := by show x = _; rw [hp', hq', hr']
  clear hp hq hr hA hla hp' hq' hr' hW hx hWb hpb hqb hrb hown1
  show Calls Tryz.prog 18 #[.pointer (some ⟨W, 0, none⟩), .agg #[.pointer (some ⟨p, 0, none⟩), .pointer (some ⟨q, 0, none⟩), .pointer (some ⟨r, 0, none⟩)], .agg #[.int .i64 19, .int .i64 m, .int .i64 a, .int .i64 b, .int .i64 c, l, v]] w _
  unfold boxed opC ptr at hwb
  go_enter Tryz.func18, Tryz.ntmps18
  go_wp2_with fail
  rw [← hwb]
  clear hwb
  refine HP.out.mono ?_
  rintro e w1 ⟨rfl, hp1, op1, hsf⟩
  obtain ⟨own2, hown2⟩ : ∃ own2, own2 = newOwn own1 wb (2, i) := ⟨_, rfl⟩
  rw [← hown2] at hp1
  have st2 : ∀ b tg, b < wb.heap.size → own1 b = tg → own2 b = tg := fun b tg hb e => by rw [hown2]; exact newOwn_stays hb e
  have y1 := op1.cell (p := ⟨w.heap.size, 1, none⟩) x1 (by show ¬ (own1 w.heap.size = (2, i)); rw [ob]; simp)
  have y2 := op1.cell (p := ⟨w.heap.size, 2, none⟩) x2 (by show ¬ (own1 w.heap.size = (2, i)); rw [ob]; simp)
  have ob2 : own2 w.heap.size = (0, 0) := st2 _ _ (cell_lt x1) ob
  have hq1 := HQB.out.frame op1 (by simp) (own' := own2) (fun b hb e => st2 b _ hb e)
  have hr1 := HRB.out.frame HAO.out.1 op1 (by simp) (own' := own2) (fun b hb e => st2 b _ hb e)
  have hW1 : WX (fun j => j ≠ i) w0 w1 own2 W ps hs K := HWB.out.frame op1 (by simp) (by simp) (fun j hj => by simpa using hj) (fun j hj => by simp) (fun j hj => by simp) (fun j => by simp) (fun b tg hb _ e => st2 b tg hb e) HWB.out.low.size
  have HF1 : Hid (∀ (p : Addr) (u : Value), own p.block = (0, 3) → w.cell? p = some u → own2 p.block = (0, 3) ∧ w1.cell? p = some u) := fun p u h0 hc => by
    obtain ⟨e1, c1⟩ := HF.out p u h0 hc
    exact ⟨st2 _ _ (cell_lt c1) e1, op1.cell c1 (by rw [e1]; simp)⟩
  have hcq := ps_sift HAO.out.1 hq1 (by omega)
  have HP1 : Hid (PS w1 own2 (2, i) p { x.A with o := siftO x.A } (1 + 100000 * (K : Int) + 40000000 * 20001) ∧ RW w1 own2 (4, i) r x.A ∧ WX (fun j => j ≠ i) w0 w1 own2 W ps hs K ∧ Sifted x.A) := ⟨hp1, hr1, hW1, hsf⟩
  have HCQ : Hid (Calls Tryz.prog 45 #[.pointer (some ⟨q, 0, none⟩)] w1 fun e w' => e = .returned (.tuple #[]) ∧ PS w' (newOwn own2 w1 (3, i)) (3, i) q { x.A with o := siftO x.A } (1 + 100000 * (K : Int) + 40000000 * 20001) ∧ Only own2 (3, i) w1 w' ∧ Sifted x.A) := hcq
  clear hp1 hr1 hW1 hq1 hcq hsf op1 hown2 st2
  go_wp2_with fail
  refine HCQ.out.mono ?_
  rintro e w2 ⟨rfl, hq2, oq2, _⟩
  obtain ⟨hp1, hr1, hW1, hsf⟩ := HP1.out
  obtain ⟨own3, hown3⟩ : ∃ own3, own3 = newOwn own2 w1 (3, i) := ⟨_, rfl⟩
  rw [← hown3] at hq2
  have st3 : ∀ b tg, b < w1.heap.size → own2 b = tg → own3 b = tg := fun b tg hb e => by rw [hown3]; exact newOwn_stays hb e
  have z1 := oq2.cell (p := ⟨w.heap.size, 1, none⟩) y1 (by show ¬ (own2 w.heap.size = (3, i)); rw [ob2]; simp)
  have z2 := oq2.cell (p := ⟨w.heap.size, 2, none⟩) y2 (by show ¬ (own2 w.heap.size = (3, i)); rw [ob2]; simp)
  have hp2 := hp1.frame oq2 (by simp) (own' := own3) (fun b hb e => st3 b _ hb e)
  have hr2 := hr1.frame HAO.out.1 oq2 (by simp) (own' := own3) (fun b hb e => st3 b _ hb e)
  have hW2 : WX (fun j => j ≠ i) w0 w2 own3 W ps hs K := hW1.frame oq2 (by simp) (by simp) (fun j hj => by simp) (fun j hj => by simpa using hj) (fun j hj => by simp) (fun j => by simp) (fun b tg hb _ e => st3 b tg hb e) hW1.low.size
  have HF2 : Hid (∀ (p : Addr) (u : Value), own p.block = (0, 3) → w.cell? p = some u → own3 p.block = (0, 3) ∧ w2.cell? p = some u) := fun p u h0 hc => by
    obtain ⟨e1, c1⟩ := HF1.out p u h0 hc
    exact ⟨st3 _ _ (cell_lt c1) e1, oq2.cell c1 (by rw [e1]; simp)⟩
  have HCO : Hid (Calls Tryz.prog 46 #[.pointer (some ⟨q, 0, none⟩)] w2 fun e w' => ∃ v, e = .returned v ∧ w'.ownsRow w2.heap.size 3 1 v x.A.n (rowF x.A.n (fun k => siftO x.A (k : Int))) ∧ Keeps [] w2 w') := ps_order hq2
  have HP2 : Hid (PS w2 own3 (2, i) p { x.A with o := siftO x.A } (1 + 100000 * (K : Int) + 40000000 * 20001) ∧ PS w2 own3 (3, i) q { x.A with o := siftO x.A } (1 + 100000 * (K : Int) + 40000000 * 20001) ∧ RW w2 own3 (4, i) r x.A ∧ WX (fun j => j ≠ i) w0 w2 own3 W ps hs K ∧ Sifted x.A) := ⟨hp2, hq2, hr2, hW2, hsf⟩
  clear hp1 hr1 hW1 hsf HP1 hp2 hq2 hr2 hW2 oq2 hown3 st3
  go_wp2_with fail
  refine HCO.out.mono ?_
  rintro e w3 ⟨v3, rfl, hrow3, hk3⟩
  obtain ⟨hp2, hq2, hr2, hW2, hsf⟩ := HP2.out
  obtain ⟨own4, hown4⟩ : ∃ own4, own4 = newOwn own3 w2 (0, 0) := ⟨_, rfl⟩
  have st4 : ∀ b tg, b < w2.heap.size → own3 b = tg → own4 b = tg := fun b tg hb e => by rw [hown4]; exact newOwn_stays hb e
  have t2 := hk3.cell z2 (by simp)
  have hp3 := hp2.keeps hk3 (own' := own4) (fun b hb e => st4 b _ hb e)
  have hq3 := hq2.keeps hk3 (own' := own4) (fun b hb e => st4 b _ hb e)
  have hr3 := hr2.keeps HAO.out.1 hk3 (own' := own4) (fun b hb e => st4 b _ hb e)
  have hW3 : WX (fun j => j ≠ i) w0 w3 own4 W ps hs K := hW2.keeps hk3 (fun b tg hb _ e => st4 b tg hb e)
  have HF3 : Hid (∀ (p : Addr) (u : Value), own p.block = (0, 3) → w.cell? p = some u → own4 p.block = (0, 3) ∧ w3.cell? p = some u) := fun p u h0 hc => by
    obtain ⟨e1, c1⟩ := HF2.out p u h0 hc
    exact ⟨st4 _ _ (cell_lt c1) e1, hk3.cell c1 (by simp)⟩
  have HCR : Hid (Calls Tryz.prog 47 #[.pointer (some ⟨r, 0, none⟩), v3] w3 fun e w' => e = .returned (.bool true) ∧ RW w' (newOwn own4 w3 (4, i)) (4, i) r { x.A with o := siftO x.A } ∧ Only own4 (4, i) w3 w') := rs_sift HAO.out.1 hr3 hsf hrow3
  have HP3 : Hid (PS w3 own4 (2, i) p { x.A with o := siftO x.A } (1 + 100000 * (K : Int) + 40000000 * 20001) ∧ PS w3 own4 (3, i) q { x.A with o := siftO x.A } (1 + 100000 * (K : Int) + 40000000 * 20001) ∧ WX (fun j => j ≠ i) w0 w3 own4 W ps hs K) := ⟨hp3, hq3, hW3⟩
  obtain ⟨g3, c3, rfl⟩ := row_sliceS hrow3 HAO.out.1.n1
  clear hp2 hq2 hr2 hW2 hsf HP2 hp3 hq3 hr3 hW3 hown4 st4 hrow3
  go_wp2_with fail
  refine HCR.out.mono ?_
  rintro e w4 ⟨rfl, hr4, or4⟩
  have HFIN : Hid ((∃ own', WAt w0 w4 own' W (ps.set i ⟨p, q, r, { x.A with o := siftO x.A }⟩) hs (K + 8000500)) ∧ Free own w w4) := by
    obtain ⟨hp3, hq3, hW3⟩ := HP3.out
    have hxx := HX.out
    rw [HPQR.out] at hxx
    refine ⟨?_, fun p u h0 hc => ?_⟩
    · exact WX.last (x := ⟨p, q, r, x.A⟩) (A' := { x.A with o := siftO x.A }) (hW3.wider (by omega)) hxx (HAO.out.1.turn _) (by have := HAO.out.2; show x.A.la ≤ _; omega) (by omega) hp3 hq3 hr4 or4
    · obtain ⟨e1, c1⟩ := HF3.out p u h0 hc
      exact or4.cell c1 (by rw [e1]; simp)
  clear hr4 or4
  go_wp2_with fail
  go_ret
  exact ⟨rfl, HFIN.out⟩

/-- half of a Reorder: the list lent, the call, what was lent looked at -/
def OrdW (w0 wb : World) (own1 : Own) (W i : Nat) (ps : List Pr) (K : Nat) (tg : Tag) (s : Nat) (A' : Abs) (lb : Int) (w3 : World) : Prop :=
  ∃ own' hs', WX (fun j => j ≠ i) w0 w3 own' W ps hs' (K + 1) ∧ PS w3 own' tg s A' lb ∧ Onlys own1 (fun y => y = (0, 0) ∨ y = (1, 0) ∨ y = tg) wb w3 ∧ (∀ b t, b < wb.heap.size → t ≠ (0, 0) → own1 b = t → own' b = t) ∧ Free own1 wb w3
theorem halfR {w0 wb w1 : World} {own1 : Own} {W K i s q ln lc cap : Nat} {ps : List Pr} {hs : List Nat} {tg : Tag} {A : Abs} {lb : Int} {va : Option Addr} {g : Nat → Int} (hW : WX (fun j => j ≠ i) w0 wb own1 W ps hs K) (hK : K ≤ 4000000000000) (htg : tg = (2, i) ∨ tg = (3, i)) (hA : AbsOk A) (h : PS wb own1 tg s A lb) (hlb : lb + 8000000 ≤ 4611686018427387904) (hln : ln ≤ 17592186043904) (hi : IntsAt w0 va ln g) (hk1 : Keeps [] wb w1)
    (hrow1 : w1.ownsRow wb.heap.size 3 1 (.slice (some ⟨q, 0, none⟩) (ln + 8) (ln + 8)) (ln + 8) (rowI (ln + 8) (lentI ln g))) :
    Calls Tryz.prog 43 #[.pointer (some ⟨s, 0, none⟩), .slice (some ⟨q, 0, none⟩) ln cap] w1.drew fun e w2 => e = .returned (.int .i64 (reorderOf A ln g).1) ∧ (∀ (p : Addr) (u : Value), own1 p.block = (0, 3) → wb.cell? p = some u → w2.cell? p = some u) ∧
      Calls Tryz.prog 30 #[.pointer (some ⟨W, 0, none⟩), .slice (some ⟨q, 0, none⟩) (ln + 8) (ln + 8), .slice va ln lc] w2 fun e w3 => e = .returned (.tuple #[]) ∧ OrdW w0 wb own1 W i ps K tg s (reorderOf A ln g).2 (lb + 8000000) w3 := by
  have hne0 : tg ≠ (0, 0) := by rcases htg with e | e <;> rw [e] <;> simp
  have hne3 : (0, 3) ≠ tg := by rcases htg with e | e <;> rw [e] <;> simp
  obtain ⟨own2, hown2⟩ : ∃ own2, own2 = newOwn own1 wb (0, 0) := ⟨_, rfl⟩
  have hkd := hk1.drew
  have hWd : WX (fun j => j ≠ i) w0 w1.drew own2 W ps hs K := hW.keeps hkd (fun b t hb _ e => by rw [hown2]; exact newOwn_stays hb e)
  have hq1 : wb.heap.size ≤ q ∧ q < w1.heap.size := hrow1.lt q rfl
  have oq1 : own2 q = (0, 0) := by rw [hown2]; exact newOwn_new (by omega)
  have hints : IntsAt w1.drew (some ⟨q, 0, none⟩) ln g := Or.inr ⟨q, 0, rfl, fun j hj => by
    have := World.ownsRow.cellAt hrow1 j (by omega)
    rw [rowI_get _ (by omega)] at this
    rw [Nat.zero_add]
    show w1.cell? _ = _
    rw [this]
    simp [lentI, hj]⟩
  refine Calls.mono (ps_reorder hA (h.keeps hkd (own' := own2) (fun b hb e => by rw [hown2]; exact newOwn_stays hb e)) hlb hints (fun b o e => by
    have e2 : q = b := by simpa using congrArg (fun t : Option Addr => t.map (·.block)) e
    rw [← e2, oq1]
    exact fun e => hne0 e.symm)) ?_
  rintro e w2 ⟨rfl, hps, hon⟩
  obtain ⟨own3, hown3⟩ : ∃ own3, own3 = newOwn own2 w1.drew tg := ⟨_, rfl⟩
  rw [← hown3] at hps
  have hW2 : WX (fun j => j ≠ i) w0 w2 own3 W ps hs K := by
    rw [hown3]
    refine hWd.frame hon ?_ ?_ ?_ ?_ ?_ ?_ (fun b t hb _ e => newOwn_stays hb e) hWd.low.size
    · rcases htg with e | e <;> rw [e] <;> simp
    · rcases htg with e | e <;> rw [e] <;> simp
    · intro j hj; rcases htg with e | e <;> rw [e] <;> simp; exact hj
    · intro j hj; rcases htg with e | e <;> rw [e] <;> simp; exact hj
    · intro j hj; rcases htg with e | e <;> rw [e] <;> simp
    · intro j; rcases htg with e | e <;> rw [e] <;> simp
  have oq3 : own3 q = (0, 0) := by rw [hown3]; exact newOwn_stays (show q < w1.drew.heap.size from hq1.2) oq1
  have hrow2 : w2.ownsRow wb.heap.size 3 1 (.slice (some ⟨q, 0, none⟩) (ln + 8) (ln + 8)) (ln + 8) (rowI (ln + 8) (lentI ln g)) := hon.row (hrow1.drew) (fun g' e => by
    have e2 : q = g' := by have : some q = some g' := e; simpa using this
    rw [← e2, oq1]
    exact fun e => hne0 e.symm)
  have hs2 := hon.size
  have hs1 : wb.heap.size ≤ w1.heap.size := hk1.size
  have hu := unhurt_any (vc := lc) (va_n := 0) hW2 hK hrow2 (by have : w1.drew.heap.size = w1.heap.size := rfl; omega) hln oq3 (hi.keeps hW2.low)
  refine ⟨rfl, fun p u h0 hc => ?_, Calls.mono hu ?_⟩
  · have hl := cell_lt hc
    have e1 : own2 p.block = (0, 3) := by rw [hown2]; exact newOwn_stays hl h0
    exact hon.cell (hkd.cell hc (by simp)) (by rw [e1]; exact hne3)
  · rintro e w3 ⟨rfl, own4, h3, hW3, hon3, hown4, hfr3⟩
    refine ⟨rfl, own4, _, hW3, ?_, ?_, fun b t hb hne e => ?_, fun p u h0 hc => ?_⟩
    · exact hps.frame hon3 (by intro e; rcases e with e | e <;> rcases htg with e' | e' <;> rw [e'] at e <;> simp at e) (fun b hb e => hown4 b tg hb hne0 e)
    · obtain ⟨S1, g1, g2⟩ := hon
      obtain ⟨S2, g3, g4⟩ := hon3
      refine ⟨S1 ++ S2, ((hkd.mono (by simp)).trans (g1.mono (by simp +contextual))).trans (g3.mono (by simp +contextual)), fun b hb => ?_⟩
      by_cases hl : b < wb.heap.size
      · left
        have hl1 : b < w1.drew.heap.size := by have := hkd.size; omega
        have e1 : own2 b = own1 b := by rw [hown2]; exact newOwn_old hl
        have e2 : own3 b = own1 b := by rw [hown3, newOwn_old hl1]; exact e1
        rcases List.mem_append.1 hb with hb | hb
        · rcases g2 b hb with e | e
          · rw [e1] at e; exact Or.inr (Or.inr e)
          · omega
        · rcases g4 b hb with e | e
          · rw [e2] at e; exact e.imp id Or.inl
          · omega
      · exact Or.inr (by omega)
    · have hl1 : b < w1.drew.heap.size := by have := hkd.size; omega
      have e1 : own2 b = t := by rw [hown2]; exact newOwn_stays hb e
      have e2 : own3 b = t := by rw [hown3]; exact newOwn_stays hl1 e1
      exact hown4 b t (by omega) hne e2
    · have hl := cell_lt hc
      have hl1 : p.block < w1.drew.heap.size := by have := hkd.size; omega
      have e1 : own2 p.block = (0, 3) := by rw [hown2]; exact newOwn_stays hl h0
      have e2 : own3 p.block = (0, 3) := by rw [hown3]; exact newOwn_stays hl1 e1
      exact hfr3 p u e2 (hon.cell (hkd.cell hc (by simp)) (by rw [e1]; exact hne3))

theorem reorderOf_la (A : Abs) (m : Nat) (f : Nat → Int) : (reorderOf A m f).2.la = A.la := by
  unfold reorderOf
  split
  · split <;> rfl
  · rfl
/-- behind the call: the answer, the boxes as they were, what looking at the list comes to -/
def HalfW (w0 wb : World) (own1 : Own) (W i : Nat) (ps : List Pr) (K : Nat) (tg : Tag) (s : Nat) (A' : Abs) (lb : Int) (va : Option Addr) (ln lc q : Nat) (z : Int) (e : Ending) (w2 : World) : Prop :=
  e = .returned (.int .i64 z) ∧ (∀ (p : Addr) (u : Value), own1 p.block = (0, 3) → wb.cell? p = some u → w2.cell? p = some u) ∧
    Calls Tryz.prog 30 #[.pointer (some ⟨W, 0, none⟩), .slice (some ⟨q, 0, none⟩) (ln + 8) (ln + 8), .slice va ln lc] w2 fun e w3 => e = .returned (.tuple #[]) ∧ OrdW w0 wb own1 W i ps K tg s A' lb w3

set_option maxRecDepth 100000 in
set_option maxHeartbeats 4000000 in
theorem orders18 {w0 w : World} {own : Own} {W K i : Nat} {ps : List Pr} {hs : List Nat} {x : Pr} (hW : WAt w0 w own W ps hs K) (hK : K ≤ 3999999999990) (hx : ps[i]? = some x) {m a b c : Int} {va : Option Addr} {ln lc : Nat} {g : Nat → Int} {v : Value} (hln : ln ≤ 17592186043904) (hi : IntsAt w0 va ln g) :
    Calls Tryz.prog 18 #[ptr W, .agg #[ptr x.p, ptr x.q, ptr x.r], opV 18 m a b c (.slice va ln lc) v] w fun e w' => e = .returned (.bool true) ∧ (∃ own' hs', WAt w0 w' own' W (ps.set i ⟨x.p, x.q, x.r, (reorderOf x.A ln g).2⟩) hs' (K + 100)) ∧ Free own w w' := by
  obtain ⟨hA, hla, hp, hq, hr⟩ := hW.prs i x trivial hx
  obtain ⟨wb, hwb⟩ : ∃ wb, wb = boxed w x.p x.q x.r 18 m a b c (.slice va ln lc) v := ⟨_, rfl⟩
  have hkb : Keeps [] w wb := by rw [hwb]; exact boxed_keeps ..
  have x0 : wb.cell? ⟨w.heap.size, 0, none⟩ = some (.pointer (some ⟨x.p, 0, none⟩)) := by rw [hwb]; exact boxed_pair _ _ _ _ _ _ _ _ _ _ _ 0 _ rfl
  have x1 : wb.cell? ⟨w.heap.size, 1, none⟩ = some (.pointer (some ⟨x.q, 0, none⟩)) := by rw [hwb]; exact boxed_pair _ _ _ _ _ _ _ _ _ _ _ 1 _ rfl
  have x2 : wb.cell? ⟨w.heap.size, 2, none⟩ = some (.pointer (some ⟨x.r, 0, none⟩)) := by rw [hwb]; exact boxed_pair _ _ _ _ _ _ _ _ _ _ _ 2 _ rfl
  have o0 : wb.cell? ⟨w.heap.size + 1, 0, none⟩ = some (.int .i64 18) := by rw [hwb]; exact boxed_op _ _ _ _ _ _ _ _ _ _ _ 0 _ rfl
  have o5 : wb.cell? ⟨w.heap.size + 1, 5, none⟩ = some (.slice va ln lc) := by rw [hwb]; exact boxed_op _ _ _ _ _ _ _ _ _ _ _ 5 _ rfl
  obtain ⟨own1, hown1⟩ : ∃ own1, own1 = newOwn own w (0, 3) := ⟨_, rfl⟩
  have ob : own1 w.heap.size = (0, 3) := by rw [hown1]; exact newOwn_new (Nat.le_refl _)
  have ob' : own1 (w.heap.size + 1) = (0, 3) := by rw [hown1]; exact newOwn_new (Nat.le_succ _)
  have hWb : WX (fun j => j ≠ i) w0 wb own1 W ps hs K := (hW.keeps hkb (fun b tg hb _ e => by rw [hown1]; exact newOwn_stays hb e)).sub (fun _ _ => trivial)
  have hpb : PS wb own1 (2, i) x.p x.A (1 + 100000 * (K : Int)) := hp.keeps hkb (fun b hb e => by rw [hown1]; exact newOwn_stays hb e)
  have hqb : PS wb own1 (3, i) x.q x.A (1 + 100000 * (K : Int)) := hq.keeps hkb (fun b hb e => by rw [hown1]; exact newOwn_stays hb e)
  have hrb : RW wb own1 (4, i) x.r x.A := hr.keeps hA hkb (fun b hb e => by rw [hown1]; exact newOwn_stays hb e)
  have HF : Hid (∀ (p : Addr) (u : Value), own p.block = (0, 3) → w.cell? p = some u → own1 p.block = (0, 3) ∧ wb.cell? p = some u) := fun p u h0 hc => ⟨by rw [hown1]; exact newOwn_stays (cell_lt hc) h0, hkb.cell hc (by simp)⟩
  have HX : Hid (ps[i]? = some x) := hx
  have HAO : Hid (AbsOk x.A ∧ x.A.la ≤ (K : Int)) := ⟨hA, hla⟩
  have HCN : Hid (GoodO x.A.n ln g → ∃ sz, Cnts x.A.n (ordF g) (Vof x.A.fs) sz) := fun hg => by
    have h1 := hg.1
    rw [h1] at hg
    exact hpb.cnts_any hg (by omega)
  have HB : Hid (PS wb own1 (3, i) x.q x.A (1 + 100000 * (K : Int)) ∧ RW wb own1 (4, i) x.r x.A) := ⟨hqb, hrb⟩
  have HI : Hid (IntsAt w0 va ln g) := hi
  obtain ⟨z, HZ⟩ : ∃ z, Hid (z = (reorderOf x.A ln g).1) := ⟨_, rfl⟩
  obtain ⟨A', HA'⟩ : ∃ A', Hid (A' = (reorderOf x.A ln g).2) := ⟨_, rfl⟩
  have HL : Hid (Calls Tryz.prog 28 #[.slice va ln lc] wb fun e w' => ∃ q, e = .returned (.slice (some ⟨q, 0, none⟩) (ln + 8) (ln + 8)) ∧ w'.ownsRow wb.heap.size 3 1 (.slice (some ⟨q, 0, none⟩) (ln + 8) (ln + 8)) (ln + 8) (rowI (ln + 8) (lentI ln g)) ∧ Keeps [] wb w') := lent_any hln (hi.keeps hWb.low)
  have HP : Hid (∀ (w1 : World) (q cap : Nat), Keeps [] wb w1 → w1.ownsRow wb.heap.size 3 1 (.slice (some ⟨q, 0, none⟩) (ln + 8) (ln + 8)) (ln + 8) (rowI (ln + 8) (lentI ln g)) → Calls Tryz.prog 43 #[.pointer (some ⟨x.p, 0, none⟩), .slice (some ⟨q, 0, none⟩) ln cap] w1.drew (HalfW w0 wb own1 W i ps K (2, i) x.p A' (1 + 100000 * (K : Int) + 8000000) va ln lc q z)) := fun w1 q cap hk hrow => by
    rw [HA'.out, HZ.out]
    exact halfR hWb (by omega) (Or.inl rfl) hA hpb (by omega) hln hi hk hrow
  obtain ⟨p, hp'⟩ : ∃ p, p = x.p := ⟨_, rfl⟩
  obtain ⟨q, hq'⟩ : ∃ q, q = x.q := ⟨_, rfl⟩
  obtain ⟨r, hr'⟩ : ∃ r, r = x.r := ⟨_, rfl⟩
  rw [← hp'] at HP x0 hwb ⊢
  rw [← hr', ← hq'] at HB
  rw [← hr'] at x2 hwb ⊢
  rw [← hq'] at x1 hwb ⊢
  have HPQR : Hid (x = ⟨p, q, r, x.A⟩) := by show x = _; rw [hp', hq', hr']
  have hln' : (ln : Int) ≤ 17592186043904 := by omega
  have hln0 : (0 : Int) ≤ (ln : Int) := by omega
  have hln8 : (ln : Int) ≤ ((ln + 8 : Nat) : Int) := by omega
  have hln9 : (ln : Int) ≤ (ln : Int) + 8 := by omega
  rw [← HA'.out]
  clear hp hq hr hA hla hp' hq' hr' hW hx hWb hpb hqb hrb hown1 hi
  show Calls Tryz.prog 18 #[.pointer (some ⟨W, 0, none⟩), .agg #[.pointer (some ⟨p, 0, none⟩), .pointer (some ⟨q, 0, none⟩), .pointer (some ⟨r, 0, none⟩)], .agg #[.int .i64 18, .int .i64 m, .int .i64 a, .int .i64 b, .int .i64 c, .slice va ln lc, v]] w _
  unfold boxed opC ptr at hwb
  go_enter Tryz.func18, Tryz.ntmps18
  go_wp2_with fail
  rw [← hwb]
  clear hwb
  refine HL.out.mono ?_
  rintro e w1 ⟨q1, rfl, hrow1, hk1⟩
  have y0 := hk1.cell x0 (by simp)
  have y5 := hk1.cell o5 (by simp)
  have HCP := HP.out w1 q1 (ln + 8) hk1 hrow1
  have HCP' : Hid (Calls Tryz.prog 43 #[.pointer (some ⟨p, 0, none⟩), .slice (some ⟨q1, 0, none⟩) ln (ln + 8)] w1.drew (HalfW w0 wb own1 W i ps K (2, i) p A' (1 + 100000 * (K : Int) + 8000000) va ln lc q1 z)) := HCP
  clear hrow1 HCP
  go_wp2_with fail
  go_region_held3 (fun w' => w'.cell? ⟨w.heap.size, 0, none⟩ = some (.pointer (some ⟨p, 0, none⟩)) ∧ w'.cell? ⟨w.heap.size + 1, 5, none⟩ = some (.slice va ln lc))
    (first | exact ⟨y0, y5⟩ | exact ⟨t0, t5⟩ | assumption)
    (first
      | (go_at_call 43; refine HCP'.out.mono ?_; intro e w2 hh2; have HH2 : Hid (HalfW w0 wb own1 W i ps K (2, i) p A' (1 + 100000 * (K : Int) + 8000000) va ln lc q1 z e w2) := hh2; have t0 := hh2.2.1 ⟨w.heap.size, 0, none⟩ _ ob x0; have t5 := hh2.2.1 ⟨w.heap.size + 1, 5, none⟩ _ ob' o5; have he2 := hh2.1; subst he2; clear hh2))
  have HU : Hid (Calls Tryz.prog 30 #[.pointer (some ⟨W, 0, none⟩), .slice (some ⟨q1, 0, none⟩) (ln + 8) (ln + 8), .slice va ln lc] w2 fun e w3 => e = .returned (.tuple #[]) ∧ OrdW w0 wb own1 W i ps K (2, i) p A' (1 + 100000 * (K : Int) + 8000000) w3) := HH2.out.2.2
  clear HH2 HCP'
  go_wp2_with fail
  refine HU.out.mono ?_
  rintro e w3 ⟨rfl, own3, hs3, hW3, hp3, on3, st3, fr3⟩
  have s1 := fr3 ⟨w.heap.size, 1, none⟩ _ ob x1
  have s2 := fr3 ⟨w.heap.size, 2, none⟩ _ ob x2
  have s5 := fr3 ⟨w.heap.size + 1, 5, none⟩ _ ob' o5
  have ob3 : own3 w.heap.size = (0, 3) := st3 _ _ (cell_lt x1) (by simp) ob
  have ob3' : own3 (w.heap.size + 1) = (0, 3) := st3 _ _ (cell_lt o5) (by simp) ob'
  have hq3 := HB.out.1.frame on3 (by simp) (own' := own3) (fun b hb e => st3 b _ hb (by simp) e)
  have hr3 := HB.out.2.frame HAO.out.1 on3 (by simp) (own' := own3) (fun b hb e => st3 b _ hb (by simp) e)
  have HF3 : Hid (∀ (p : Addr) (u : Value), own p.block = (0, 3) → w.cell? p = some u → own3 p.block = (0, 3) ∧ w3.cell? p = some u) := fun p u h0 hc => by
    obtain ⟨e1, c1⟩ := HF.out p u h0 hc
    exact ⟨st3 _ _ (cell_lt c1) (by simp) e1, fr3 p u e1 c1⟩
  have HL3 : Hid (Calls Tryz.prog 28 #[.slice va ln lc] w3 fun e w' => ∃ q, e = .returned (.slice (some ⟨q, 0, none⟩) (ln + 8) (ln + 8)) ∧ w'.ownsRow w3.heap.size 3 1 (.slice (some ⟨q, 0, none⟩) (ln + 8) (ln + 8)) (ln + 8) (rowI (ln + 8) (lentI ln g)) ∧ Keeps [] w3 w') := lent_any hln (HI.out.keeps hW3.low)
  have HQ3 : Hid (∀ (w1 : World) (q' cap : Nat), Keeps [] w3 w1 → w1.ownsRow w3.heap.size 3 1 (.slice (some ⟨q', 0, none⟩) (ln + 8) (ln + 8)) (ln + 8) (rowI (ln + 8) (lentI ln g)) → Calls Tryz.prog 43 #[.pointer (some ⟨q, 0, none⟩), .slice (some ⟨q', 0, none⟩) ln cap] w1.drew (HalfW w0 w3 own3 W i ps (K + 1) (3, i) q A' (1 + 100000 * (K : Int) + 8000000) va ln lc q' z)) := fun w1 q' cap hk hrow => by
    rw [HA'.out, HZ.out]
    exact halfR hW3 (by omega) (Or.inr rfl) HAO.out.1 hq3 (by omega) hln HI.out hk hrow
  have HB3 : Hid (PS w3 own3 (2, i) p A' (1 + 100000 * (K : Int) + 8000000) ∧ RW w3 own3 (4, i) r x.A) := ⟨hp3, hr3⟩
  clear HU hp3 hr3 hq3 hW3 on3 st3 fr3 HL HP HB
  go_wp2_with fail
  refine HL3.out.mono ?_
  rintro e w4 ⟨q4, rfl, hrow4, hk4⟩
  have v1 := hk4.cell s1 (by simp)
  have v5 := hk4.cell s5 (by simp)
  have HCQ' : Hid (Calls Tryz.prog 43 #[.pointer (some ⟨q, 0, none⟩), .slice (some ⟨q4, 0, none⟩) ln (ln + 8)] w4.drew (HalfW w0 w3 own3 W i ps (K + 1) (3, i) q A' (1 + 100000 * (K : Int) + 8000000) va ln lc q4 z)) := HQ3.out w4 q4 (ln + 8) hk4 hrow4
  clear hrow4
  go_wp2_with fail
  go_region_held3 (fun w' => w'.cell? ⟨w.heap.size, 1, none⟩ = some (.pointer (some ⟨q, 0, none⟩)) ∧ w'.cell? ⟨w.heap.size + 1, 5, none⟩ = some (.slice va ln lc))
    (first | exact ⟨v1, v5⟩ | exact ⟨u1, u5⟩ | assumption)
    (first
      | (go_at_call 43; refine HCQ'.out.mono ?_; intro e w5 hh5; have HH5 : Hid (HalfW w0 w3 own3 W i ps (K + 1) (3, i) q A' (1 + 100000 * (K : Int) + 8000000) va ln lc q4 z e w5) := hh5; have u1 := hh5.2.1 ⟨w.heap.size, 1, none⟩ _ ob3 s1; have u5 := hh5.2.1 ⟨w.heap.size + 1, 5, none⟩ _ ob3' s5; have he5 := hh5.1; subst he5; clear hh5))
  have HU5 : Hid (Calls Tryz.prog 30 #[.pointer (some ⟨W, 0, none⟩), .slice (some ⟨q4, 0, none⟩) (ln + 8) (ln + 8), .slice va ln lc] w5 fun e w6 => e = .returned (.tuple #[]) ∧ OrdW w0 w3 own3 W i ps (K + 1) (3, i) q A' (1 + 100000 * (K : Int) + 8000000) w6) := HH5.out.2.2
  clear HH5 HCQ'
  go_wp2_with fail
  refine HU5.out.mono ?_
  rintro e w6 ⟨rfl, own6, hs6, hW6, hq6, on6, st6, fr6⟩
  have d2 := fr6 ⟨w.heap.size, 2, none⟩ _ ob3 s2
  have d5 := fr6 ⟨w.heap.size + 1, 5, none⟩ _ ob3' s5
  have hp6 := HB3.out.1.frame on6 (by simp) (own' := own6) (fun b hb e => st6 b _ hb (by simp) e)
  have hr6 := HB3.out.2.frame HAO.out.1 on6 (by simp) (own' := own6) (fun b hb e => st6 b _ hb (by simp) e)
  have HF6 : Hid (∀ (p : Addr) (u : Value), own p.block = (0, 3) → w.cell? p = some u → own6 p.block = (0, 3) ∧ w6.cell? p = some u) := fun p u h0 hc => by
    obtain ⟨e1, c1⟩ := HF3.out p u h0 hc
    exact ⟨st6 _ _ (cell_lt c1) (by simp) e1, fr6 p u e1 c1⟩
  have HR6 : Hid (Calls Tryz.prog 44 #[.pointer (some ⟨r, 0, none⟩), .slice va ln lc] w6 fun e w' => e = .returned (.int .i64 z) ∧ RW w' (newOwn own6 w6 (4, i)) (4, i) r A' ∧ Only own6 (4, i) w6 w') := by
    rw [HA'.out, HZ.out]
    exact rs_reorder HAO.out.1 hr6 (by omega) (HI.out.keeps hW6.low) HCN.out
  have HP6 : Hid (PS w6 own6 (2, i) p A' (1 + 100000 * (K : Int) + 8000000) ∧ PS w6 own6 (3, i) q A' (1 + 100000 * (K : Int) + 8000000) ∧ WX (fun j => j ≠ i) w0 w6 own6 W ps hs6 (K + 1 + 1)) := ⟨hp6, hq6, hW6⟩
  clear HU5 hp6 hq6 hr6 hW6 on6 st6 fr6 HB3 HL3 HQ3
  go_wp2_with fail
  refine HR6.out.mono ?_
  rintro e w7 ⟨rfl, hr7, or7⟩
  have HFIN : Hid ((∃ own' hs', WAt w0 w7 own' W (ps.set i ⟨p, q, r, A'⟩) hs' (K + 100)) ∧ Free own w w7) := by
    obtain ⟨hp6, hq6, hW6⟩ := HP6.out
    have hxx := HX.out
    rw [HPQR.out] at hxx
    have hA2 : AbsOk A' := by rw [HA'.out]; exact HAO.out.1.reorder ln g
    have hla2 : A'.la ≤ ((K + 100 : Nat) : Int) := by
      have h1 : A'.la = x.A.la := by rw [HA'.out]; exact reorderOf_la _ _ _
      have := HAO.out.2
      omega
    refine ⟨?_, fun p u h0 hc => ?_⟩
    · obtain ⟨own', h⟩ := WX.last (x := ⟨p, q, r, x.A⟩) (A' := A') (hW6.wider (show K + 1 + 1 ≤ K + 100 by omega)) hxx hA2 hla2 (by omega) hp6 hq6 hr7 or7
      exact ⟨own', _, h⟩
    · obtain ⟨e1, c1⟩ := HF6.out p u h0 hc
      exact or7.cell c1 (by rw [e1]; simp)
  have ez : (z == z) = true := by simp
  clear hr7 or7 HR6
  go_wp2_with fail
  go_ret
  exact ⟨rfl, HFIN.out⟩

end Go.Proofs.YtmgjegokkbghlaaGreat

namespace Go.Proofs.YtmgjegokkbghlaaGreat
open Go.RowKit Go.Maps Bdd
attribute [local go_sem ↓] Go.wp_at_zero Go.wp_at_succ
set_option linter.unusedVariables false

set_option maxRecDepth 100000 in
set_option maxHeartbeats 4000000 in
theorem step_late {w0 w : World} {own : Own} {W K : Nat} {ps : List Pr} {hs : List Nat} (hW : WAt w0 w own W ps hs K) (hK : K < 3999999999990) (hps : 0 < ps.length) {k m a b c : Int} {la : Option Addr} {ln lc : Nat} {gl : Nat → Int} {va : Option Addr} {vn vc : Nat} {f : Nat → Bool} (hk17 : 17 ≤ k) (hk19 : k ≤ 19) (hkf : Fits k) (hm : Fits m) (ha : Fits a) (hb : Fits b) (hc : Fits c) (hvn : vn ≤ 140737488351232) (hv0 : TruthsIn w0 va vn f) (hln : ln ≤ 17592186043904) (hl0 : IntsAt w0 la ln gl) :
    Calls Tryz.prog 9 #[ptr W, opV k m a b c (.slice la ln lc) (.slice va vn vc)] w fun e w' => e = .returned (.bool true) ∧ (∃ own' ps' hs', ps'.length = ps.length ∧ WAt w0 w' own' W ps' hs' (K + 8000500)) ∧ Free own w w' := by
  obtain ⟨pv, q1, q2, q3, q4⟩ := hW.c0
  obtain ⟨g, cap, rfl⟩ := row_slice q2 hps
  obtain ⟨i, hi, hidx⟩ := pick_pair (m := m) hps (by have := hW.kp; omega)
  obtain ⟨x, hx⟩ : ∃ x, ps[i]? = some x := ⟨_, List.getElem?_eq_getElem hi⟩
  obtain ⟨f0, f1, f2⟩ := flatP_get ps i x hx
  have r0 : w.cell? ⟨g, i * 3, none⟩ = some (.pointer (some ⟨x.p, 0, none⟩)) := by rw [World.ownsRow.cellAt q2 _ (by omega)]; exact f0
  have r1 : w.cell? ⟨g, i * 3 + 1, none⟩ = some (.pointer (some ⟨x.q, 0, none⟩)) := by rw [World.ownsRow.cellAt q2 _ (by omega)]; exact f1
  have r2 : w.cell? ⟨g, i * 3 + 2, none⟩ = some (.pointer (some ⟨x.r, 0, none⟩)) := by rw [World.ownsRow.cellAt q2 _ (by omega)]; exact f2
  have hgl : g < w.heap.size := cell_lt r0
  have hWl : W < w.heap.size := hW.lt
  obtain ⟨n, hn⟩ : ∃ n, n = ps.length := ⟨_, rfl⟩
  rw [← hn] at q1 hidx hi hps
  have hnK : (n : Int) ≤ 4000000000000 := by have := hW.kp; omega
  have hz : ((n : Int) == 0) = false := by simp; omega
  have hz2 : ¬ n = 0 := by omega
  have hi0 : (0 : Int) ≤ (i : Int) := by omega
  have hi1 : (i : Int) < (n : Int) := by omega
  have hk1 : k ≠ 1 := by omega
  have hne1 : (k == 1) = false := by simpa using hk1
  have HW : Hid (WAt w0 w own W ps hs K) := hW
  have HX : Hid (ps[i]? = some x) := hx
  have HN : Hid (n = ps.length) := hn
  have HV0 : Hid (TruthsIn w0 va vn f) := hv0
  have HL0 : Hid (IntsAt w0 la ln gl) := hl0
  have HF : Hid (Fits k ∧ Fits m ∧ Fits a ∧ Fits b ∧ Fits c) := ⟨hkf, hm, ha, hb, hc⟩
  have HK1 : Hid (k ≠ 1) := hk1
  obtain ⟨p, hp'⟩ : ∃ p, p = x.p := ⟨_, rfl⟩
  obtain ⟨q, hq'⟩ : ∃ q, q = x.q := ⟨_, rfl⟩
  obtain ⟨r, hr'⟩ : ∃ r, r = x.r := ⟨_, rfl⟩
  have HPE : Hid (p = x.p ∧ q = x.q ∧ r = x.r) := ⟨hp', hq', hr'⟩
  rw [← hp'] at r0
  rw [← hq'] at r1
  rw [← hr'] at r2
  clear q2 q3 q4 f0 f1 f2 hW hx hn hv0 hl0 hk1 hp' hq' hr'
  unfold Fits at hm ha hb hc hkf
  show Calls Tryz.prog 9 #[.pointer (some ⟨W, 0, none⟩), .agg #[.int .i64 k, .int .i64 m, .int .i64 a, .int .i64 b, .int .i64 c, .slice la ln lc, .slice va vn vc]] w _
  go_enter Tryz.func9, Tryz.ntmps9
  go_wp2_with fail
  go_region
  obtain ⟨wd, hwd⟩ : ∃ wd, wd = ((w.alloc (.cells #[.int .i64 k, .int .i64 m, .int .i64 a, .int .i64 b, .int .i64 c, .slice la ln lc, .slice va vn vc] 34)).alloc (.cells #[.pointer (some ⟨p, 0, none⟩), .pointer (some ⟨q, 0, none⟩), .pointer (some ⟨r, 0, none⟩)] 44)).drew := ⟨_, rfl⟩
  rw [← hwd]
  have hkd : Keeps [] w wd := by rw [hwd]; exact (((Keeps.refl _ _).alloc _).alloc _).drew
  have ho : ∀ j u, #[Value.int .i64 k, .int .i64 m, .int .i64 a, .int .i64 b, .int .i64 c, .slice la ln lc, .slice va vn vc][j]? = some u → wd.cell? ⟨w.heap.size, j, none⟩ = some u := fun j u h => by
    rw [hwd]
    exact (((Keeps.refl [] _).alloc _).drew).cell (cell_new w _ _ rfl h) (by simp)
  have hpc : ∀ j u, #[Value.pointer (some ⟨p, 0, none⟩), .pointer (some ⟨q, 0, none⟩), .pointer (some ⟨r, 0, none⟩)][j]? = some u → wd.cell? ⟨w.heap.size + 1, j, none⟩ = some u := fun j u h => by
    rw [hwd]
    exact ((Keeps.refl [] _).drew).cell (cell_new _ _ _ (by simp) h) (by simp)
  have o0 := ho 0 _ rfl
  have o1 := ho 1 _ rfl
  have o2 := ho 2 _ rfl
  have o3 := ho 3 _ rfl
  have o4 := ho 4 _ rfl
  have o5 := ho 5 _ rfl
  have o6 := ho 6 _ rfl
  have p0 := hpc 0 _ rfl
  have p1 := hpc 1 _ rfl
  have p2 := hpc 2 _ rfl
  have hWd : WAt w0 wd (newOwn own w (0, 3)) W ps hs K := HW.out.keeps hkd (fun b tg hb _ e => newOwn_stays hb e)
  have HWD : Hid (WAt w0 wd (newOwn own w (0, 3)) W ps hs K) := hWd
  have hsz : w.heap.size + 1 < wd.heap.size := cell_lt p0
  clear hwd ho hpc hWd r0 r1 r2 q1 hidx HW
  have him := isMake_no2 (w := wd) (k := k) (by omega)
  by_cases h17 : k = 17
  · subst h17
    have HAK : Hid (Calls Tryz.prog 19 #[.pointer (some ⟨W, 0, none⟩), .agg #[.pointer (some ⟨p, 0, none⟩), .pointer (some ⟨q, 0, none⟩), .pointer (some ⟨r, 0, none⟩)], .agg #[.int .i64 17, .int .i64 m, .int .i64 a, .int .i64 b, .int .i64 c, .slice la ln lc, .slice va vn vc]] wd fun e w' => e = .returned (.bool true) ∧ (∃ own' ps' hs', ps'.length = ps.length ∧ WAt w0 w' own' W ps' hs' (K + 8000500)) ∧ Free (newOwn own w (0, 3)) wd w') := by
      show Calls Tryz.prog 19 _ wd _
      rw [HPE.out.1, HPE.out.2.1, HPE.out.2.2]
      refine (asks17 HWD.out (by omega) HX.out).mono ?_
      rintro e w' ⟨rfl, ⟨own', h, hh⟩, hfr⟩
      exact ⟨rfl, ⟨own', _, _, rfl, hh.wider (by omega)⟩, hfr⟩
    go_wp2_with fail
    refine him.mono ?_
    rintro e w' ⟨rfl, rfl⟩
    go_wp2_with fail
    refine HAK.out.mono ?_
    rintro e w1 ⟨rfl, hh, hfr⟩
    have HH : Hid (∃ own' ps' hs', ps'.length = ps.length ∧ WAt w0 w1 own' W ps' hs' (K + 8000500)) := hh
    have HFR : Hid (Free own w w1) := fun p u h0 hc => hfr p u (newOwn_stays (cell_lt hc) h0) (hkd.cell hc (by simp))
    clear hh hfr
    go_wp2_with fail
    go_ret
    exact ⟨rfl, HH.out, HFR.out⟩
  by_cases h18 : k = 18
  · subst h18
    have HAK : Hid (Calls Tryz.prog 18 #[.pointer (some ⟨W, 0, none⟩), .agg #[.pointer (some ⟨p, 0, none⟩), .pointer (some ⟨q, 0, none⟩), .pointer (some ⟨r, 0, none⟩)], .agg #[.int .i64 18, .int .i64 m, .int .i64 a, .int .i64 b, .int .i64 c, .slice la ln lc, .slice va vn vc]] wd fun e w' => e = .returned (.bool true) ∧ (∃ own' ps' hs', ps'.length = ps.length ∧ WAt w0 w' own' W ps' hs' (K + 8000500)) ∧ Free (newOwn own w (0, 3)) wd w') := by
      show Calls Tryz.prog 18 _ wd _
      rw [HPE.out.1, HPE.out.2.1, HPE.out.2.2]
      refine (orders18 HWD.out (by omega) HX.out hln HL0.out).mono ?_
      rintro e w' ⟨rfl, ⟨own', hs', hh⟩, hfr⟩
      exact ⟨rfl, ⟨own', _, _, by simp, hh.wider (by omega)⟩, hfr⟩
    go_wp2_with fail
    refine him.mono ?_
    rintro e w' ⟨rfl, rfl⟩
    go_wp2_with fail
    refine HAK.out.mono ?_
    rintro e w1 ⟨rfl, hh, hfr⟩
    have HH : Hid (∃ own' ps' hs', ps'.length = ps.length ∧ WAt w0 w1 own' W ps' hs' (K + 8000500)) := hh
    have HFR : Hid (Free own w w1) := fun p u h0 hc => hfr p u (newOwn_stays (cell_lt hc) h0) (hkd.cell hc (by simp))
    clear hh hfr
    go_wp2_with fail
    go_ret
    exact ⟨rfl, HH.out, HFR.out⟩
  · obtain rfl : k = 19 := by omega
    have HAK : Hid (Calls Tryz.prog 18 #[.pointer (some ⟨W, 0, none⟩), .agg #[.pointer (some ⟨p, 0, none⟩), .pointer (some ⟨q, 0, none⟩), .pointer (some ⟨r, 0, none⟩)], .agg #[.int .i64 19, .int .i64 m, .int .i64 a, .int .i64 b, .int .i64 c, .slice la ln lc, .slice va vn vc]] wd fun e w' => e = .returned (.bool true) ∧ (∃ own' ps' hs', ps'.length = ps.length ∧ WAt w0 w' own' W ps' hs' (K + 8000500)) ∧ Free (newOwn own w (0, 3)) wd w') := by
      show Calls Tryz.prog 18 _ wd _
      rw [HPE.out.1, HPE.out.2.1, HPE.out.2.2]
      refine (orders19 HWD.out (by omega) HX.out).mono ?_
      rintro e w' ⟨rfl, ⟨own', hh⟩, hfr⟩
      exact ⟨rfl, ⟨own', _, _, by simp, hh⟩, hfr⟩
    go_wp2_with fail
    refine him.mono ?_
    rintro e w' ⟨rfl, rfl⟩
    go_wp2_with fail
    refine HAK.out.mono ?_
    rintro e w1 ⟨rfl, hh, hfr⟩
    have HH : Hid (∃ own' ps' hs', ps'.length = ps.length ∧ WAt w0 w1 own' W ps' hs' (K + 8000500)) := hh
    have HFR : Hid (Free own w w1) := fun p u h0 hc => hfr p u (newOwn_stays (cell_lt hc) h0) (hkd.cell hc (by simp))
    clear hh hfr
    go_wp2_with fail
    go_ret
    exact ⟨rfl, HH.out, HFR.out⟩

/-- what one call comes to, of the kinds up to Sift -/
def StepsToB (most : Int) : Prop := ∀ (w0 w : World) (own : Own) (W K : Nat) (ps : List Pr) (hs : List Nat) (k m a b c : Int) (la : Option Addr) (ln lc : Nat) (gl : Nat → Int) (va : Option Addr) (vn vc : Nat) (f : Nat → Bool), WAt w0 w own W ps hs K → K < 3999999999990 → 0 < ps.length → k ≤ most → Fits k → Fits m → Fits a → Fits b → Fits c → vn ≤ 140737488351232 → TruthsIn w0 va vn f → ln ≤ 17592186043904 → IntsAt w0 la ln gl →
  Calls Tryz.prog 9 #[.pointer (some ⟨W, 0, none⟩), .agg #[.int .i64 k, .int .i64 m, .int .i64 a, .int .i64 b, .int .i64 c, .slice la ln lc, .slice va vn vc]] w fun e w' => e = .returned (.bool true) ∧ (∃ own' ps' hs', ps.length ≤ ps'.length ∧ WAt w0 w' own' W ps' hs' (K + 8000500)) ∧ Free own w w'
theorem steps19 : StepsToB 19 := by
  intro w0 w own W K ps hs k m a b c la ln lc gl va vn vc f hW hK hps hk fk fm fa fb fc hvn hv hln hl
  by_cases h1 : k ≤ 16
  · refine (steps16 w0 w own W K ps hs k m a b c la ln lc gl va vn vc f hW (by omega) hps h1 fk fm fa fb fc hvn hv hln hl).mono ?_
    rintro e w' ⟨rfl, ⟨own', ps', hs', hl, hh⟩, hf⟩
    exact ⟨rfl, ⟨own', ps', hs', hl, hh.wider (by omega)⟩, hf⟩
  · refine (step_late hW (by omega) hps (by omega) hk fk fm fa fb fc hvn hv hln hl).mono ?_
    rintro e w' ⟨rfl, ⟨own', ps', hs', hl, hh⟩, hf⟩
    exact ⟨rfl, ⟨own', ps', hs', by omega, hh⟩, hf⟩

set_option maxRecDepth 100000 in
set_option maxHeartbeats 4000000 in
theorem plays_big {most : Int} (hmost : Fits most) (HSTEP : StepsToB most) {w : World} {sa : Option Addr} {n cap : Nat} {lo hi : Int} (hn : n ≤ 400000) (hS : ScriptIn2 w sa n) (hlo : Fits lo) (hhi : Fits hi) :
    Calls Tryz.prog 7 #[.slice sa n cap, .int .i64 lo, .int .i64 hi, .int .i64 most] w fun e w' => e = .returned (.bool true) ∧ Keeps [] w w' := by
  obtain ⟨W, hW⟩ : ∃ W, W = w.heap.size := ⟨_, rfl⟩
  obtain ⟨wa, hwa⟩ : ∃ wa, wa = w.alloc (.cells #[.slice none 0 0, .slice none 0 0, .bool false] 29) := ⟨_, rfl⟩
  obtain ⟨owna, hst⟩ : ∃ owna, WAt w wa owna W [] [] 0 := ⟨_, by rw [hW, hwa]; exact WX.start w⟩
  have f0 : Fits 0 := by unfold Fits; omega
  have f1 : Fits 1 := by unfold Fits; omega
  have f3 : Fits 3 := by unfold Fits; omega
  have hnil : TruthsIn w none 0 (fun _ => false) := Or.inl rfl
  have H1 : Hid (Calls Tryz.prog 8 #[.pointer (some ⟨W, 0, none⟩), .agg #[.int .i64 0, .int .i64 0, .int .i64 3, .int .i64 50, .int .i64 0, .slice none 0 0, .slice none 0 0]] wa fun e w' => e = .returned (.bool true) ∧ ∃ own' ps', ps'.length = 1 ∧ WAt w w' own' W ps' [] 1) := by
    refine (begin_good hst (by omega) (n := 3) (by omega) (by omega) (by omega) (by omega)).mono ?_
    rintro e w' ⟨rfl, own', x, _, hh, _⟩
    exact ⟨rfl, own', _, by simp, hh⟩
  have H2 : Hid (∀ (wx : World) (ownx : Own) (ps : List Pr) (hs : List Nat) (K : Nat) (a : Int), ps.length = 1 → K ≤ 2 → Fits a → WAt w wx ownx W ps hs K → Calls Tryz.prog 9 #[.pointer (some ⟨W, 0, none⟩), .agg #[.int .i64 3, .int .i64 0, .int .i64 a, .int .i64 0, .int .i64 0, .slice none 0 0, .slice none 0 0]] wx fun e w' => e = .returned (.bool true) ∧ ∃ own' ps' hs', ps'.length = 1 ∧ WAt w w' own' W ps' hs' (K + 1)) := by
    intro wx ownx ps hs K a hl hK hfa hWx
    refine (step_old hWx (by omega) (by omega) (k := 3) (m := 0) (a := a) (b := 0) (c := 0) (l := .slice none 0 0) (va := none) (vn := 0) (vc := 0) (by omega) (by omega) f3 f0 hfa f0 f0 (by omega) hnil).mono ?_
    rintro e w' ⟨rfl, ⟨own', ps', hs', hl', hh⟩, _⟩
    exact ⟨rfl, own', ps', hs', by omega, hh⟩
  have H3 : Hid (∀ (wx : World) (ownx : Own) (ps : List Pr) (hs : List Nat) (K : Nat), WAt w wx ownx W ps hs K → Calls Tryz.prog 8 #[.pointer (some ⟨W, 0, none⟩), .agg #[.int .i64 0, .int .i64 0, .int .i64 0, .int .i64 50, .int .i64 0, .slice none 0 0, .slice none 0 0]] wx fun e w' => e = .returned (.bool true) ∧ WAt w w' ownx W ps hs K) := by
    intro wx ownx ps hs K hWx
    refine (begin_bad hWx (Or.inl (by omega))).mono ?_
    rintro e w' ⟨rfl, hk⟩
    exact ⟨rfl, hWx.keeps hk (fun b tg hb _ e => e)⟩
  have len1 : ∀ (wx : World) (ownx : Own) (ps : List Pr) (hs : List Nat) (K : Nat), ps.length = 1 → WAt w wx ownx W ps hs K → ∃ g cap, wx.cell? ⟨W, 0, none⟩ = some (.slice (some ⟨g, 0, none⟩) 1 cap) := fun wx ownx ps hs K hl hWx => by
    obtain ⟨pv, q1, q2, _⟩ := hWx.c0
    rw [hl] at q2
    obtain ⟨g, cap, rfl⟩ := row_slice q2 (by omega)
    exact ⟨g, cap, q1⟩
  have HS : Hid (ScriptIn2 w sa n) := hS
  have HL1 : Hid (∀ (wx : World) (ownx : Own) (ps : List Pr) (hs : List Nat) (K : Nat), ps.length = 1 → WAt w wx ownx W ps hs K → ∃ g cap, wx.cell? ⟨W, 0, none⟩ = some (.slice (some ⟨g, 0, none⟩) 1 cap)) := len1
  have hn' : (n : Int) ≤ 400000 := by omega
  unfold Fits at hlo hhi hmost
  have HST0 : Hid (StepsToB most) := HSTEP
  clear hst hS hnil len1 HSTEP
  go_enter Tryz.func7, Tryz.ntmps7
  go_wp2_with fail
  rw [← hwa, ← hW]
  clear hwa hW
  refine H1.out.mono ?_
  rintro e w1 ⟨rfl, own1, ps1, hl1, hW1⟩
  obtain ⟨g1, cap1, x1⟩ := HL1.out _ _ _ _ _ hl1 hW1
  have HW1 : Hid (ps1.length = 1 ∧ WAt w w1 own1 W ps1 [] 1) := ⟨hl1, hW1⟩
  clear hl1 hW1
  go_wp2_with fail
  refine (H2.out w1 own1 ps1 [] 1 0 HW1.out.1 (by omega) f0 HW1.out.2).mono ?_
  rintro e w2 ⟨rfl, own2, ps2, hs2, hl2, hW2⟩
  have HW2 : Hid (ps2.length = 1 ∧ WAt w w2 own2 W ps2 hs2 2) := ⟨hl2, hW2⟩
  clear hl2 hW2 x1
  go_wp2_with fail
  refine (H2.out w2 own2 ps2 hs2 2 1 HW2.out.1 (by omega) f1 HW2.out.2).mono ?_
  rintro e w3 ⟨rfl, own3, ps3, hs3, hl3, hW3⟩
  have HW3 : Hid (ps3.length = 1 ∧ WAt w w3 own3 W ps3 hs3 3) := ⟨hl3, hW3⟩
  clear hl3 hW3
  go_wp2_with fail
  refine (H3.out w3 own3 ps3 hs3 3 HW3.out.2).mono ?_
  rintro e w4 ⟨rfl, hW4⟩
  obtain ⟨g4, cap4, x4⟩ := HL1.out _ _ _ _ _ HW3.out.1 hW4
  have HW4 : Hid (WAt w w4 own3 W ps3 hs3 3) := hW4
  clear hW4
  go_wp2_with fail
  clear x4
  go_loopw [10, 14] (fun ok x wr => ∃ (j : Nat) (b : Bool) (own : Own) (ps : List Pr) (hs : List Nat), j ≤ n ∧ ok = .bool b ∧ x = .int .i64 j ∧ 0 < ps.length ∧ WAt w wr own W ps hs (3 + 8000500 * j)) (fun _ x _ => n - (intOf x).toNat)
  case atStart => exact ⟨0, true, own3, ps3, hs3, by omega, rfl, rfl, by rw [HW3.out.1]; omega, HW4.out⟩
  case round =>
    clear HW1 HW2 HW3 HW4 H1 H2 H3 HL1
    obtain ⟨j, b, own, ps, hs, hj, rfl, rfl, hps, hWr⟩ := hrel
    have HWR : Hid (WAt w wr own W ps hs (3 + 8000500 * j)) := hWr
    clear hWr
    by_cases hlt : j < n
    · have hj0 : (0 : Int) ≤ (j : Int) := by omega
      have hj1 : (j : Int) < (n : Int) := by omega
      obtain ⟨sb, so, ea, hops⟩ : ∃ sb so, sa = some ⟨sb, so, none⟩ ∧ ∀ j, j < n → OpIn2 w sb (so + j * 7) := by
        rcases HS.out with h | h
        · omega
        · exact h
      subst ea
      obtain ⟨k, m, a, bb, c, la, ln, lc, gl, va, vn, vc, f, c0, c1, c2, c3, c4, c5, c6, fk, fm, fa, fb, fc, hvn, htr, hln, hil⟩ := hops j hlt
      have low := HWR.out.low
      have d0 := low.cell c0 (by simp)
      have d1 := low.cell c1 (by simp)
      have d2 := low.cell c2 (by simp)
      have d3 := low.cell c3 (by simp)
      have d4 := low.cell c4 (by simp)
      have d5 := low.cell c5 (by simp)
      have d6 := low.cell c6 (by simp)
      have hsb : sb < wr.heap.size := cell_lt d0
      have HTR : Hid (TruthsIn w va vn f) := htr
      have HIL : Hid (IntsAt w la ln gl) := hil
      have HFK : Hid (Fits k ∧ Fits m ∧ Fits a ∧ Fits bb ∧ Fits c) := ⟨fk, fm, fa, fb, fc⟩
      clear hops c0 c1 c2 c3 c4 c5 c6 htr hil low
      unfold Fits at fk fm fa fb fc
      by_cases hkm : most < k
      · go_wp2_with fail
        go_roundw
        case rel => exact ⟨j + 1, b, own, ps, hs, by omega, rfl, by go_num, hps, (HWR.out.keeps ((Keeps.refl _ _).alloc _) (fun b tg hb _ e => e)).wider (by omega)⟩
        case measure => simp [intOf]; omega
      · have hk11 : k ≤ most := by omega
        obtain ⟨wb, hwb⟩ : ∃ wb, wb = wr.alloc (.cells #[.int .i64 k, .int .i64 m, .int .i64 a, .int .i64 bb, .int .i64 c, .slice la ln lc, .slice va vn vc] 34) := ⟨_, rfl⟩
        have hkb : Keeps [] wr wb := by rw [hwb]; exact (Keeps.refl _ _).alloc _
        have hb0 : wb.cell? ⟨wr.heap.size, 0, none⟩ = some (.int .i64 k) := by rw [hwb]; simp
        have hst := HST0.out w wb (newOwn own wr (0, 3)) W (3 + 8000500 * j) ps hs k m a bb c la ln lc gl va vn vc f (HWR.out.keeps hkb (fun b tg hb _ e => newOwn_stays hb e)) (by omega) hps hk11 HFK.out.1 HFK.out.2.1 HFK.out.2.2.1 HFK.out.2.2.2.1 HFK.out.2.2.2.2 hvn HTR.out hln HIL.out
        have HST : Hid (Calls Tryz.prog 9 #[.pointer (some ⟨W, 0, none⟩), .agg #[.int .i64 k, .int .i64 m, .int .i64 a, .int .i64 bb, .int .i64 c, .slice la ln lc, .slice va vn vc]] wb fun e w' => e = .returned (.bool true) ∧ (∃ own' ps' hs', ps.length ≤ ps'.length ∧ WAt w w' own' W ps' hs' (3 + 8000500 * j + 8000500)) ∧ Free (newOwn own wr (0, 3)) wb w') := hst
        clear hst
        go_wp2_with fail
        rw [← hwb]
        clear hwb
        refine HST.out.mono ?_
        rintro e w1 ⟨rfl, ⟨own', ps', hs', hl, hh⟩, hfr⟩
        have e0 : w1.cell? ⟨wr.heap.size, 0, none⟩ = some (.int .i64 k) := hfr _ _ (newOwn_new (Nat.le_refl _)) hb0
        have HH : Hid (WAt w w1 own' W ps' hs' (3 + 8000500 * j + 8000500)) := hh
        have HLK : Hid (Calls Tryz.prog 10 #[.pointer (some ⟨W, 0, none⟩)] w1 fun e w' => e = .returned (.bool true) ∧ Keeps [] w1 w') := looks_any hh (by omega)
        clear hh hfr
        by_cases hk1 : k = 1
        · have d1 : (k == 1) = true := by simp [hk1]
          clear hk1
          go_wp2_with fail
          refine HLK.out.mono ?_
          rintro e w2 ⟨rfl, hk2⟩
          go_wp2_with fail
          go_roundw
          case rel => exact ⟨j + 1, true, own', ps', hs', by omega, rfl, by go_num, by omega, (HH.out.keeps hk2 (fun b tg hb _ e => e)).wider (by omega)⟩
          case measure => simp [intOf]; omega
        · have d1 : (k == 1) = false := by simpa using hk1
          clear hk1
          by_cases hlo2 : lo ≤ k
          · have dlo : decide (lo ≤ k) = true := by simpa using hlo2
            go_wp2_with fail
            refine HLK.out.mono ?_
            rintro e w2 ⟨rfl, hk2⟩
            go_wp2_with fail
            go_roundw
            case rel => exact ⟨j + 1, true, own', ps', hs', by omega, rfl, by go_num, by omega, (HH.out.keeps hk2 (fun b tg hb _ e => e)).wider (by omega)⟩
            case measure => simp [intOf]; omega
          · have dlo : decide (lo ≤ k) = false := by simpa using hlo2
            clear hlo2
            go_wp2_with fail
            refine HLK.out.mono ?_
            rintro e w2 ⟨rfl, hk2⟩
            go_wp2_with fail
            go_roundw
            case rel => exact ⟨j + 1, true, own', ps', hs', by omega, rfl, by go_num, by omega, (HH.out.keeps hk2 (fun b tg hb _ e => e)).wider (by omega)⟩
            case measure => simp [intOf]; omega
    · have hj1 : (n : Int) ≤ (j : Int) := by omega
      go_wp2_with fail
      go_ret
      exact ⟨rfl, HWR.out.low⟩

end Go.Proofs.YtmgjegokkbghlaaGreat

namespace Go.Proofs.YtmgjegokkbghlaaGreat.ordered
open Go.ChangeShapes Go.WideShapes Go.ChangeAt Go.RowKit
open Go.ChangeMaps (open_string shut_string)
set_option linter.unusedVariables false

theorem own : ownKnob Tryz.prog.godebug = none := by kernel_rfl
theorem laidOut : laidOutB Tryz.prog = true := by kernel_rfl

/-! The walk. -/
set_option maxRecDepth 100000 in
theorem walk (a0 : Option Addr) (len0 cap0 : Nat) (w : World) (hS : ScriptIn2 w a0 len0) (hn : len0 ≤ 400000) :
    Calls Tryz.prog 6 #[.slice a0 len0 cap0] w fun e w' => e = .returned (.bool true) ∧ Below w.heap.size w w' := by
  have H : Hid (Calls Tryz.prog 7 #[.slice a0 len0 cap0, .int .i64 2, .int .i64 19, .int .i64 19] w fun e w' => e = .returned (.bool true) ∧ Keeps [] w w') := plays_big (by unfold Fits; omega) steps19 hn hS (by unfold Fits; omega) (by unfold Fits; omega)
  clear hS hn
  go_enter Tryz.func6, Tryz.ntmps6
  go_wp2_with fail
  refine H.out.mono ?_
  rintro e w1 ⟨rfl, hk⟩
  go_wp2_with fail
  go_ret
  exact ⟨rfl, hk.below (Nat.le_refl _) (by simp)⟩

/-! What the bound gives: an Op is of bulk 8 or more. -/
theorem one_le {H : Type} (d : DataW H) : 1 ≤ Rows.uptoBulk d := by
  cases d with
  | lit l => cases l <;> simp [Rows.uptoBulk]
  | nil => simp [Rows.uptoBulk]
  | ptr d => simp [Rows.uptoBulk]
  | slice elems spare => simp [Rows.uptoBulk]
  | agg parts => simp [Rows.uptoBulk]
  | iface t d => simp [Rows.uptoBulk]
  | map entries => simp [Rows.uptoBulk]
  | held h => simp [Rows.uptoBulk]
theorem all_ge {H : Type} {c : Nat} : ∀ (l : List (DataW H)), (∀ d ∈ l, c ≤ Rows.uptoBulk d) → c * l.length ≤ Rows.uptoBulkAll l
  | [], _ => by simp
  | d :: r, h => by
    have h1 := h d (by simp)
    have h2 := all_ge r (fun x hx => h x (List.mem_cons_of_mem _ hx))
    simp only [Rows.uptoBulkAll, List.length_cons, Nat.mul_add, Nat.mul_one]
    omega
theorem ops_few {H : Type} {enc : TypeId × Value → H} {W : World} {a : Option Addr} {len cap fuel : Nat} {x : DataW H × List MemPlace} (h : DataW.trod enc Tryz.prog W 0 (fun _ => true) true fuel 22 [.slice a len cap] = some x) (hk : Rows.uptoBulk x.1 ≤ 1048576) : len ≤ 400000 := by
  rcases DataW.trod_slice Tryz.underlying22 h with ⟨hcs, hx⟩ | ⟨ad, len', cap', elems, rest, n, _, hcs, hx, hb, hlc, hcm, hel, hcells, hsp, _⟩
  · simp at hcs
    omega
  · simp at hcs
    obtain ⟨rfl, rfl, rfl⟩ := hcs
    rw [hx] at hk
    simp only [Rows.uptoBulk] at hk
    have hall := all_ge (c := 8) (elems.map (·.1)) (fun d hd => by
      obtain ⟨e, he, rfl⟩ := List.mem_map.1 hd
      obtain ⟨j, hj, rfl⟩ := List.getElem_of_mem he
      have hc := hcells j (by omega)
      rw [List.getElem?_eq_getElem hj] at hc
      obtain ⟨cs, h1, h2⟩ := Option.bind_eq_some_iff.1 hc
      obtain ⟨xs, m, _, hxe, hlen, hxl, hf⟩ := DataW.trod_struct Tryz.underlying34 h2
      have hxl7 : xs.length = 7 := hxl
      rw [hxe]
      simp only [Rows.uptoBulk]
      have := all_ge (c := 1) (xs.map (·.1)) (fun d _ => one_le d)
      simp only [List.length_map, hxl7] at this
      omega)
    simp only [List.length_map] at hall
    omega

/-! The row's step. -/
set_option maxRecDepth 100000 in
theorem lifted (os : Os) (started : os.Started) (H : Type) (enc : TypeId × Value → H) (F : Stop.Interp) :
    ReturnsInHanded {} Tryz.checked os 6 .any ((Rows.OpenSpec.upto Rows.orderedSpec).pre6 enc Tryz.prog Tryz.f6 Rows.orderedUptoRow.domain false) (((Rows.OpenSpec.upto Rows.orderedSpec).at F).post enc Tryz.prog Tryz.f6 false true false false) := by
  refine returnsInHanded_of_cond_sized (C := Tryz.checked) (s := Rows.OpenSpec.upto Rows.orderedSpec) (k := Rows.uptoSmall) rfl own started (by kernel_rfl) Tryz.func6
    (OpenSpec.witness (enc := enc) (C := Tryz.checked) (s := Rows.OpenSpec.upto Rows.orderedSpec) (k := Rows.uptoSmall) rfl false ⟨#[], #[.slice none 0 0], []⟩ 8 (by kernel_rfl) (by kernel_rfl) (by kernel_rfl)
      (x := ([.nil], [], [])) (by kernel_rfl) rfl (by kernel_rfl)) ?_
  intro W base args ds gs before hval0 hW hcnd hkk hsized _
  have hval : ∀ (j : Nat) t v, Tryz.f6.params[j]? = some t → args[j]? = some v → Value.okWide Tryz.prog W .any base t v := hval0
  have hW' := hW
  obtain ⟨p, q, hA0, hV, rfl, hfz, hnd⟩ := hW
  have hA : DataW.TrodAll enc Tryz.prog W 0 (fun _ => true) true Tryz.f6.params.toList args.toList ds p := hA0
  have hsz : (DataW.weightsEach Tryz.prog (Tryz.f6.params.toList ++ (Rows.OpenSpec.upto Rows.orderedSpec).bare.plain.varTypes Tryz.prog) (ds ++ gs)).all (· ≤ reachBytes) = true := hsized
  rw [Tryz.params6] at hA hval hsz
  obtain ⟨v0, vs0, d0, ds0, p0, q0, hargs, rfl, rfl, h0, r0⟩ := trodAll_cons hA
  obtain ⟨rfl, rfl, rfl⟩ := trodAll_nil r0
  obtain rfl : args = #[v0] := by cases args; simp_all
  obtain ⟨rfl, rfl⟩ := trodVars_none hV
  obtain ⟨a0, len0, cap0, rfl⟩ := okWide_slice Tryz.underlying22 (hval 0 22 v0 rfl rfl)
  have k0 := h0
  have lt0 : ∀ x ∈ p0, x.block < W.heap.size := by obtain ⟨m, hm⟩ := k0; exact DataW.trod_lt m _ _ _ hm
  have hbulk : Rows.uptoBulk d0 ≤ 1048576 := by
    have hb : Rows.uptoBulkAll ([d0] ++ []) ≤ 1048576 := of_decide_eq_true hkk
    simp only [List.append_nil, Rows.uptoBulkAll] at hb
    omega
  obtain ⟨hS, hn⟩ : ScriptIn2 W a0 len0 ∧ len0 ≤ 400000 := by
    obtain ⟨fuel, hf⟩ := h0
    have hf' : DataW.trod enc Tryz.prog W 0 (fun _ => true) true fuel 22 [.slice a0 len0 cap0] = some (d0, p0) := by simpa [Value.cells] using hf
    refine ⟨(open_ops2 hf' (fun n hn => ?_)).1, ops_few hf' hbulk⟩
    have := List.all_eq_true.1 hsz n (DataW.weights_mem_each (j := 0) (t := 22) (d := d0) rfl rfl n hn)
    simpa using this
  clear hA0 hval0
  refine (walk a0 len0 cap0 W hS hn).mono fun e W' ⟨he, bel⟩ => ?_
  subst he
  exact ⟨_, rfl, _, _, _, [], _, [], hW', trodAll_mk1 (shut_bool Tryz.underlying4 _), (trodAll_cons_mk (Below.trod laidOut (by kernel_rfl) (of_decide_eq_true (by kernel_rfl)) k0 bel lt0) trodAll_mk0), rfl, bel.frame _, fun h => by cases h⟩

/-- ████ THE STATEMENT ████ -/
theorem proved : Rows.OrderedUptoSaid :=
  OpenClaim.holds_of_cond 6 Tryz.f6 rfl rfl rfl rfl rfl rfl rfl ⟨rfl, rfl, rfl, rfl, rfl⟩ rfl rfl rfl rfl rfl (by kernel_rfl) Tryz.func6 (by kernel_rfl)
    (of_decide_eq_true (by kernel_rfl)) (by unfold Func.isWrapper; first | (rw [if_pos (by decide +kernel)]; kernel_rfl) | (rw [if_neg (by decide +kernel)]; exact ⟨rfl, rfl⟩))
    (fun os started H enc _ F => lifted os started H enc F)
#print axioms proved
end Go.Proofs.YtmgjegokkbghlaaGreat.ordered
