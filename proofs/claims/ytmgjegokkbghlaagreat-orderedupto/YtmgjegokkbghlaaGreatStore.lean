/- A store in memory; the walks of New, forget. -/
import Derived.Test.YtmgjegokkbghlaaGreatOrder
namespace Go.Proofs.YtmgjegokkbghlaaGreat
open Go.RowKit Go.Maps Bdd

theorem lawInt : Keyed Tryz.prog 3 := int_keyed Tryz.underlying3
theorem keyInt {h : Int} (hf : Fits h) : keyOf Tryz.prog 3 (.int .i64 h) = some (.int .i64 h) := keyOf_int_mk Tryz.underlying3 hf.wf

/-- what is held, as the map has it -/
def heldG (H : Int → Option Int) : Value → Option Value
  | .int .i64 h => (H h).map (Value.int .i64)
  | _ => none

/-- A STORE: at s; what it holds at hb; its table; its order. -/
structure StAt (w : World) (s hb t bn bm sz nh : Nat) {L : Nat} (od : Ord L) (lim given : Int) (N : Tab) (last : Int) (H : Int → Option Int) : Prop where
  tab : TabAt w t bn bm sz N (L : Int) last
  c0 : w.cell? ⟨s, 0, none⟩ = some (.int .i64 lim)
  c1 : w.cell? ⟨s, 1, none⟩ = some (.int .i64 given)
  c2 : w.cell? ⟨s, 2, none⟩ = some (.slice (some ⟨od.blk, 0, none⟩) L od.cap)
  c3 : w.cell? ⟨s, 3, none⟩ = some (.map (some hb))
  c4 : w.cell? ⟨s, 4, none⟩ = some (.pointer (some ⟨t, 0, none⟩))
  f1 : w.frozen? ⟨s, 1, none⟩ = false
  held : MapIs w Tryz.prog 3 hb nh (heldG H)
  ord : OrdIn w od
  pos : 0 < L
  n1 : hb ≠ bn
  n2 : hb ≠ bm
  n3 : s ≠ t
  n4 : od.blk ≠ s
  n5 : od.blk ≠ t
  ok : ∀ h f, H h = some f → Ok N 0 f
  hr : ∀ h f, H h = some f → 1 ≤ h ∧ h ≤ 4611686018427387905
  g0 : 0 ≤ given
  g1 : given ≤ 4611686018427387904

section
variable {w w' : World} {s hb t bn bm sz sz' nh L : Nat} {od : Ord L} {lim given : Int} {N N' : Tab} {last last' : Int} {H : Int → Option Int}

theorem StAt.oc (h : StAt w s hb t bn bm sz nh od lim given N last H) : w.cell? ⟨od.blk, 0, none⟩ = some (.int .i64 (od.at_ 0)) := (h.ord 0 h.pos).1
theorem StAt.on (h : StAt w s hb t bn bm sz nh od lim given N last H) : od.blk ≠ bn := h.tab.names.ne_cell h.oc
theorem StAt.om (h : StAt w s hb t bn bm sz nh od lim given N last H) : od.blk ≠ bm := h.tab.nodes.ne_cell h.oc
theorem StAt.oh (h : StAt w s hb t bn bm sz nh od lim given N last H) : od.blk ≠ hb := h.held.ne_cell h.oc
theorem StAt.lts (hst : StAt w s hb t bn bm sz nh od lim given N last H) : ∀ i ∈ [s, hb, t, bn, bm, od.blk], i < w.heap.size := by
  have l0 : s < w.heap.size := cell_lt (p := ⟨s, 0, none⟩) hst.c0
  have l1 := hst.held.lt
  have l2 := hst.tab.names.lt
  have l3 := hst.tab.nodes.lt
  have l4 : t < w.heap.size := cell_lt (p := ⟨t, 0, none⟩) hst.tab.c0
  have l5 : od.blk < w.heap.size := cell_lt (p := ⟨od.blk, 0, none⟩) hst.oc
  simp; omega

theorem StAt.keepsB {S : List Nat} (h : StAt w s hb t bn bm sz nh od lim given N last H) (hk : Keeps S w w') (hS : ∀ i ∈ [s, hb, t, bn, bm, od.blk], i ∉ S) : StAt w' s hb t bn bm sz nh od lim given N last H :=
  have a1 := hS s (by simp)
  ⟨h.tab.keeps hk (hS t (by simp)) (hS bn (by simp)) (hS bm (by simp)), hk.cell h.c0 a1, hk.cell h.c1 a1, hk.cell h.c2 a1, hk.cell h.c3 a1, hk.cell h.c4 a1, (hk.frozen (p := ⟨s, 1, none⟩) (cell_lt h.c1) a1).trans h.f1, h.held.keeps hk (hS hb (by simp)), h.ord.keeps hk (hS od.blk (by simp)), h.pos, h.n1, h.n2, h.n3, h.n4, h.n5, h.ok, h.hr, h.g0, h.g1⟩
theorem StAt.keeps (h : StAt w s hb t bn bm sz nh od lim given N last H) (hk : Keeps [] w w') : StAt w' s hb t bn bm sz nh od lim given N last H :=
  h.keepsB hk (by simp)

/-- the table turned, the rest as it was -/
theorem StAt.turn (h : StAt w s hb t bn bm sz nh od lim given N last H) (hk : Keeps [t, bn, bm] w w') (hT : TabAt w' t bn bm sz' N' (L : Int) last') (hok : ∀ x f, H x = some f → Ok N' 0 f) :
    StAt w' s hb t bn bm sz' nh od lim given N' last' H := by
  have hs : s ∉ [t, bn, bm] := by simp; exact ⟨h.n3, h.tab.names.ne_cell h.c0, h.tab.nodes.ne_cell h.c0⟩
  have hh : hb ∉ [t, bn, bm] := by simp; exact ⟨fun e => h.held.ne_cell h.tab.c0 e.symm, h.n1, h.n2⟩
  have ho : od.blk ∉ [t, bn, bm] := by simp; exact ⟨h.n5, h.on, h.om⟩
  exact ⟨hT, hk.cell h.c0 hs, hk.cell h.c1 hs, hk.cell h.c2 hs, hk.cell h.c3 hs, hk.cell h.c4 hs, (hk.frozen (p := ⟨s, 1, none⟩) (cell_lt h.c1) hs).trans h.f1, h.held.keeps hk hh, h.ord.keeps hk ho, h.pos, h.n1, h.n2, h.n3, h.n4, h.n5, hok, h.hr, h.g0, h.g1⟩
end

/-- the table has just the nodes of what is held -/
def Trim (N : Tab) (H : Int → Option Int) : Prop := ∀ x n, N x = some n → ∃ h f, H h = some f ∧ Rch N f x

theorem rch_keep {N : Tab} {K : Int → Bool} (hc : Closed N K) {f x : Int} (hr : Rch N f x) (hf : K f = true) : Rch (keep N K) f x := by
  induction hr with
  | self hn => exact Rch.self (keep_some.2 ⟨hf, hn⟩)
  | @lo f n x hn h ih =>
    refine Rch.lo (keep_some.2 ⟨hf, hn⟩) (ih ?_)
    cases h with
    | self hm => exact (hc f n hf hn).1 _ hm
    | lo hm _ => exact (hc f n hf hn).1 _ hm
    | hi hm _ => exact (hc f n hf hn).1 _ hm
  | @hi f n x hn h ih =>
    refine Rch.hi (keep_some.2 ⟨hf, hn⟩) (ih ?_)
    cases h with
    | self hm => exact (hc f n hf hn).2 _ hm
    | lo hm _ => exact (hc f n hf hn).2 _ hm
    | hi hm _ => exact (hc f n hf hn).2 _ hm
theorem rch_node {N : Tab} {f x : Int} (h : Rch N f x) : ∃ n, N f = some n := by
  cases h with
  | self h => exact ⟨_, h⟩
  | lo h _ => exact ⟨_, h⟩
  | hi h _ => exact ⟨_, h⟩
theorem trim_keep {N : Tab} {K : Int → Bool} {H : Int → Option Int} (hc : Closed N K) (h1 : ∀ x, K x = true → ∃ h f, H h = some f ∧ Rch N f x) (h2 : ∀ h f, H h = some f → ∀ n, N f = some n → K f = true) : Trim (keep N K) H := by
  intro x n hx
  obtain ⟨hK, _⟩ := keep_some.1 hx
  obtain ⟨h, f, hf, hr⟩ := h1 x hK
  obtain ⟨m, hm⟩ := rch_node hr
  exact ⟨h, f, hf, rch_keep hc hr (h2 h f hf m hm)⟩

set_option maxRecDepth 100000 in
set_option maxHeartbeats 1000000 in
theorem forget_any {w : World} {s hb t bn bm sz nh L : Nat} {od : Ord L} {lim given : Int} {N : Tab} {last : Int} {H : Int → Option Int} (h : StAt w s hb t bn bm sz nh od lim given N last H) (hnh : nh ≤ 100) :
    Calls Tryz.prog 41 #[.pointer (some ⟨s, 0, none⟩)] w fun e w' => ∃ sz' K, e = .returned (.tuple #[]) ∧ StAt w' s hb t bn bm sz' nh od lim given (keep N K) last H ∧ Closed N K ∧ (∀ x, K x = true → ∃ h f, H h = some f ∧ Rch N f x) ∧
      (∀ h f, H h = some f → ∀ n, N f = some n → K f = true) ∧ sz' ≤ nh * (pw L - 1) ∧ Keeps [bn, bm] w w' := by
  have hmm := @run_makeMap Tryz.prog
  have c3 := h.c3
  have l0 : s < w.heap.size := cell_lt (p := ⟨s, 0, none⟩) h.c0
  have l1 := h.held.lt
  have l2 := h.tab.names.lt
  have l3 := h.tab.nodes.lt
  have l4 : t < w.heap.size := cell_lt (p := ⟨t, 0, none⟩) h.tab.c0
  have hL8 := h.tab.wf.tops
  have hpl : pw L ≤ 256 := by
    have : ∀ k, k ≤ 8 → pw k ≤ 256 := by decide
    exact this L (by omega)
  have hpp := pw_pos L
  obtain ⟨W, hW⟩ : ∃ W, W = w.alloc (.map #[] 0) := ⟨_, rfl⟩
  have hkW : Keeps [] w W := by rw [hW]; exact (Keeps.refl _ _).alloc _
  have hWs : W.heap.size = w.heap.size + 1 := by rw [hW]; simp
  have hset : MapIs W Tryz.prog 95 w.heap.size 0 (setV (fun _ => false)) := by
    rw [hW]; exact (MapIs.made w Tryz.prog 95).congr (fun v _ _ => by unfold setV; split <;> rfl)
  have hheld := h.held.keeps hkW (by simp)
  have HW : Hid (W = w.alloc (.map #[] 0)) := hW
  have c3' := hkW.cell h.c3 (by simp)
  rw [hW] at c3'
  clear hW
  go_enter Tryz.func41, Tryz.ntmps41
  go_wp2_with (first
    | (at_range; rw [← HW.out]; refine wpList_rangeIs _ rfl _ 52 rfl 3 95 lawInt Tryz.underlying52 hb nh (heldG H) rfl hheld ?_; intro w0 hrg0 hg0 hs0; rw [hWs] at hrg0; rw [hWs])
    | go_in)
  go_frame
  go_loopw [4] (fun _ wr => ∃ (left : Value → Bool) (cnt ns : Nat) (K : Int → Bool), RangeIs wr Tryz.prog 3 hb (w.heap.size + 1) nh (heldG H) left cnt ∧ MapIs wr Tryz.prog 95 w.heap.size ns (setV K) ∧ Closed N K ∧ (∀ x, K x = true → ∃ h f, H h = some f ∧ Rch N f x) ∧
      (∀ h f, H h = some f → left (.int .i64 h) = false → ∀ n, N f = some n → K f = true) ∧ cnt ≤ nh ∧ ns ≤ (nh - cnt) * (pw L - 1) ∧ Keeps [w.heap.size, w.heap.size + 1] W wr)
    (fun _ wr => wr.rangeLeft hb (w.heap.size + 1))
  case atStart =>
    refine ⟨_, nh, 0, fun _ => false, hrg0, hset.grown hg0 (by simp), ?_, ?_, ?_, by omega, by omega, (Keeps.refl _ _).grown hg0 (by simp)⟩
    · intro f n hf; cases hf
    · intro x hx; cases hx
    · intro x f hx hl
      simp [heldG, hx] at hl
  case round =>
    obtain ⟨left, cnt, ns, K, hrg, hm, hcl, hsnd, hcmp, hcn, hns, hkr⟩ := hrel
    go_wp2_with (first
      | (at_next; refine wpList_nextIs _ rfl _ rfl 3 .i64 lawInt Tryz.underlying3 (Value.int .i64) hb (w.heap.size + 1) nh _ left cnt ?_ rfl hrg ?_ ?_)
      | go_in)
    · intro x v hv
      unfold heldG at hv
      split at hv
      · obtain ⟨n, _, rfl⟩ := Option.map_eq_some_iff.1 hv
        exact ⟨n, rfl⟩
      · cases hv
    · intro hc0 hl0
      have hk1 : Keeps [] w wr := (hkW.mono (by simp)).trans hkr |>.strike (by simp)
      have hst := h.keeps hk1
      have d4 := hst.c4
      go_wp2_with fail
      refine (keepTab_any hst.tab hm (by omega) (by omega) hcl).mono ?_
      rintro e w1 ⟨sz', rfl, hT1, hk2, hsz⟩
      go_wp2_with fail
      go_end0
      have hfull : ∀ x f, H x = some f → ∀ n, N f = some n → K f = true := fun x f hx n hn => hcmp x f hx (hl0 x (by
        have := h.hr x f hx
        exact (show Fits x by unfold Fits; omega).wf)) n hn
      refine ⟨sz', K, rfl, hst.turn (hk2.mono (by simp)) hT1 (fun x f hx => (h.ok x f hx).keep (hfull x f hx)), hcl, hsnd, hfull, ?_, (hk1.mono (by simp)).trans hk2⟩
      subst hc0
      simpa using Nat.le_trans hsz hns
    · intro x f w1 cnt1 hwx hlx hGx hrg1 hlt hg1 hs1 hen
      have hHx : H x = some f := by
        have : (H x).map (Value.int .i64) = some (.int .i64 f) := hGx
        obtain ⟨f', e1, e2⟩ := Option.map_eq_some_iff.1 this
        cases e2; exact e1
      have hk1 : Keeps [w.heap.size, w.heap.size + 1] W w1 := hkr.grown hg1 (by simp)
      have hkw : Keeps [] w w1 := (hkW.mono (by simp)).trans hk1 |>.strike (by simp)
      have hst := h.keeps hkw
      have d4 := hst.c4
      have hm1 := hm.grown hg1 (by simp)
      have HX : Hid (H x = some f) := hHx
      have hok := h.ok x f hHx
      clear hHx hGx
      have hml : 26000 < maxLen := by decide
      have hnsb : ns ≤ 100 * 255 := Nat.le_trans hns (Nat.mul_le_mul (by omega) (by omega))
      go_wp2_with fail
      refine (gather_any L w1 t bn bm w.heap.size sz ns N (L : Int) last K 0 f hst.tab hm1 (by omega) (by omega) (by omega) hok (by omega)).mono ?_
      rintro e w2 ⟨K', ns', rfl, a1, a2, a3, a4, a5, a6, hk2⟩
      go_wp2_with fail
      have hrg2 := hrg1.keeps hk2 (by simp; omega) (by simp)
      go_roundw
      case rel =>
        refine ⟨_, cnt1, ns', K', hrg2, a1, ?_, ?_, ?_, by omega, ?_, hk1.trans (hk2.mono (by simp))⟩
        · intro y n hy hn
          cases hKy : K y with
          | true =>
            obtain ⟨q1, q2⟩ := hcl y n hKy hn
            exact ⟨fun m hm => a2 _ (q1 m hm), fun m hm => a2 _ (q2 m hm)⟩
          | false => exact a5 y n hy hKy hn
        · intro y hy
          rcases a3 y hy with hy | hy
          · exact hsnd y hy
          · exact ⟨x, f, HX.out, hy⟩
        · intro z g hz hl n hn
          by_cases e : z = x
          · subst e
            rw [HX.out] at hz
            cases hz
            exact a4 n hn
          · rw [strike_other _ (by simp [e])] at hl
            exact a2 _ (hcmp z g hz hl n hn)
        · have : (nh - cnt) + 1 ≤ nh - cnt1 := by omega
          have h2 := Nat.mul_le_mul_right (pw L - 1) this
          rw [Nat.succ_mul] at h2
          omega
      case measure => rw [hrg2.left_eq, hrg.left_eq]; exact hlt

end Go.Proofs.YtmgjegokkbghlaaGreat
