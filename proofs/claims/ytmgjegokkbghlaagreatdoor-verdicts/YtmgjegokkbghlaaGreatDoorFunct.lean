/- function: an expression's function. -/
import Derived.Test.YtmgjegokkbghlaaGreatDoorStack
import Derived.Deep.AppendLies
import Derived.Deep.RegionLaw
import Derived.WalkSmall
import Derived.Deep.RegionWith
namespace Go.Proofs.YtmgjegokkbghlaaGreatDoor
open Go.RowKit Go.Maps Bdd Circ Gram
set_option linter.unusedVariables false
attribute [local go_sem ↓] Go.wp_at_zero Go.wp_at_succ

theorem infoFn : (Tryz.prog.info? 88).map (fun i => (i.zero, i.size, i.bytes)) = some (some (.int .i64 0), 1, 8) := by kernel_rfl
theorem post_word : ∀ {e : Ex}, e.wf → ∀ y ∈ e.post, y = zer ∨ y = one ∨ y = bang ∨ y = sg 0 ∨ y = sg 1 ∨ y = sg 2 ∨ isName y = true
  | .lit b, _, y, hy => by cases b <;> simp [Ex.post] at hy <;> simp [hy]
  | .nm w, h, y, hy => by
    simp [Ex.post] at hy
    subst hy
    have h : isName y = true := h
    simp [h]
  | .no e, h, y, hy => by
    simp [Ex.post] at hy
    rcases hy with hy | rfl
    · exact post_word (e := e) h y hy
    · simp
  | .bin k a b, h, y, hy => by
    have h : k < 3 ∧ a.wf ∧ b.wf := h
    simp [Ex.post] at hy
    rcases hy with hy | hy | rfl
    · exact post_word h.2.1 y hy
    · exact post_word h.2.2 y hy
    · have : k = 0 ∨ k = 1 ∨ k = 2 := by omega
      rcases this with rfl | rfl | rfl <;> simp
/-- names of functions, and what they are -/
def Vals (N : Tab) : List Int → List Fun → Prop
  | r :: rs, f :: fs => Val N r f ∧ Vals N rs fs
  | [], [] => True
  | _, _ => False
theorem Vals.ext {N N' : Tab} (h : Ext N N') : ∀ {rs : List Int} {fs : List Fun}, Vals N rs fs → Vals N' rs fs
  | r :: rs, f :: fs, hv => ⟨h r f hv.1, Vals.ext h hv.2⟩
  | [], [], _ => trivial
  | [], _ :: _, hv => hv.elim
  | _ :: _, [], hv => hv.elim
theorem Vals.len {N : Tab} : ∀ {rs : List Int} {fs : List Fun}, Vals N rs fs → rs.length = fs.length
  | r :: rs, f :: fs, hv => by simp [Vals.len hv.2]
  | [], [], _ => rfl
  | [], _ :: _, hv => hv.elim
  | _ :: _, [], hv => hv.elim
def cellsR (rs : List Int) : List Value := rs.reverse.map fun r => .int .i64 r
theorem cellsR_cons (r : Int) (rs : List Int) : cellsR (r :: rs) = cellsR rs ++ [.int .i64 r] := by simp [cellsR]
theorem cellsR_len (rs : List Int) : (cellsR rs).length = rs.length := by simp [cellsR]

/-- what the loop keeps -/
def FunInv (w : World) (m t bn bm L I K : Nat) (N : Tab) (P : List (W × Int)) (e : Ex) (j : Nat) (a : Option Addr) (n c : Nat) (wr : World) : Prop :=
  ∃ (rs : List Int) (st : List Fun) (N' : Tab) (KK : Nat), n = rs.length ∧ wr.ownsRow w.heap.size 88 1 (.slice a n c) rs.length (cellsR rs) ∧ rs.length ≤ j ∧ Vals N' rs st ∧ runS (levP P) st (e.post.drop j) = some [fnE (levP P) e] ∧ Mk wr m t bn bm L I KK N' ∧ KK ≤ K + 5000 * j ∧ Ext N N' ∧ Keeps [t, bn, bm] w wr

/-- one function more lies on the stack -/
theorem FunInv.push {w wr w1 : World} {m t bn bm L I K KK : Nat} {N N' : Tab} {P : List (W × Int)} {e : Ex} {j : Nat} {a : Option Addr} {c g' cap' : Nat} {rs : List Int} {st : List Fun} {r : Int} {f : Fun} {o : Obj}
    (hrow : wr.ownsRow w.heap.size 88 1 (.slice a rs.length c) rs.length (cellsR rs)) (hown : w1.ownsRow w.heap.size 88 1 (.slice (some ⟨g', 0, none⟩) (rs.length + 1) cap') (rs.length + 1) (cellsR rs ++ [.int .i64 r])) (hg : (wr.alloc o).grownBy w1 (Value.slice a rs.length c).ownBlock)
    (hrj : rs.length ≤ j) (hv : Vals N' (r :: rs) (f :: st)) (hrun : runS (levP P) (f :: st) (e.post.drop (j + 1)) = some [fnE (levP P) e]) (hm : Mk wr m t bn bm L I KK N') (hmw : m < w.heap.size) (htw : t < w.heap.size ∧ bn < w.heap.size ∧ bm < w.heap.size) (hKK : KK ≤ K + 5000 * (j + 1)) (hext : Ext N N') (hk : Keeps [t, bn, bm] w wr) :
    FunInv w m t bn bm L I K N P e (j + 1) (some ⟨g', 0, none⟩) (rs.length + 1) cap' w1 := by
  have hb := own_base hrow
  have hk1 : Keeps ((Value.slice a rs.length c).ownBlock.toList) wr w1 := ((Keeps.refl _ _).alloc o).grown hg (fun k e => Or.inl (by simp [e]))
  have hni : ∀ x, x < w.heap.size → x ∉ (Value.slice a rs.length c).ownBlock.toList := fun x hx hin => by
    have := hb x (by simpa using hin)
    omega
  refine ⟨r :: rs, f :: st, N', KK, by simp, by rw [cellsR_cons]; exact hown, by simp; omega, hv, hrun, hm.keeps hk1 (hni m hmw) (hni t htw.1) (hni bn htw.2.1) (hni bm htw.2.2), hKK, hext, ?_⟩
  refine ((hk.mono (S' := [t, bn, bm] ++ (Value.slice a rs.length c).ownBlock.toList) (by intro i hi; exact List.mem_append_left _ hi)).trans (hk1.mono (by intro i hi; exact List.mem_append_right _ hi))).strike (fun i hi hlt => ?_)
  rcases List.mem_append.1 hi with h | h
  · exact h
  · exact absurd h (hni i hlt)
theorem cell_push {w wr w1 : World} {v : Value} {n k : Nat} {xs : List Value} {o : Obj} {m q : Nat} {u : Value} (hrow : wr.ownsRow w.heap.size 88 k v n xs) (hg : (wr.alloc o).grownBy w1 v.ownBlock) (hm : m < w.heap.size) (hc : wr.cell? ⟨m, q, none⟩ = some u) : w1.cell? ⟨m, q, none⟩ = some u := by
  have hk1 : Keeps (v.ownBlock.toList) wr w1 := ((Keeps.refl _ _).alloc o).grown hg (fun k e => Or.inl (by simp [e]))
  exact hk1.cell hc (fun hin => by have := own_base hrow m (by simpa using hin); omega)
/-- the function on top turns into another -/
theorem FunInv.top {w w1 : World} {m t bn bm L I K KK : Nat} {N N' : Tab} {P : List (W × Int)} {e : Ex} {j : Nat} {g c q : Nat} {rs : List Int} {st : List Fun} {r r1 : Int} {f : Fun}
    (hrow : w1.ownsRow w.heap.size 88 1 (.slice (some ⟨g, 0, none⟩) (q + 1) c) (q + 1) (cellsR (r :: rs))) (hq : q = rs.length) (hgb : w.heap.size ≤ g)
    (hrj : q + 1 ≤ j) (hv : Vals N' (r1 :: rs) (f :: st)) (hrun : runS (levP P) (f :: st) (e.post.drop (j + 1)) = some [fnE (levP P) e]) (hm : Mk w1 m t bn bm L I KK N') (hmw : m < w.heap.size) (htw : t < w.heap.size ∧ bn < w.heap.size ∧ bm < w.heap.size) (hKK : KK ≤ K + 5000 * (j + 1)) (hext : Ext N N') (hk : Keeps [t, bn, bm] w w1) :
    FunInv w m t bn bm L I K N P e (j + 1) (some ⟨g, 0, none⟩) (q + 1) c (w1.setCell ⟨g, q, none⟩ (.int .i64 r1)) := by
  subst hq
  have hk1 : Keeps [g] w1 (w1.setCell ⟨g, rs.length, none⟩ (.int .i64 r1)) := (Keeps.refl _ _).setCell _ (Or.inl (by simp)) _
  have hst := (hrow.stored rs.length (.int .i64 r1)).1
  have hset : (cellsR (r :: rs)).set rs.length (.int .i64 r1) = cellsR (r1 :: rs) := by
    rw [cellsR_cons, cellsR_cons, List.set_append_right _ _ (by rw [cellsR_len]; omega), cellsR_len]
    simp
  rw [hset] at hst
  refine ⟨r1 :: rs, f :: st, N', KK, by simp, by simpa using hst, by simp; omega, hv, hrun, hm.keeps hk1 (by simp; omega) (by simp; omega) (by simp; omega) (by simp; omega), hKK, hext, ?_⟩
  exact ((hk.mono (S' := [t, bn, bm, g]) (by intro i hi; simp at hi ⊢; omega)).trans (hk1.mono (by simp))).strike (fun i hi hlt => by simp at hi ⊢; omega)
theorem run_push {lev : W → Int} {st : List Fun} {x : W} {r : List W} {f : Fun} {res : Option (List Fun)} (h : runS lev st (x :: r) = res) (hs : stepS lev st x = some (f :: st)) : runS lev (f :: st) r = res := by
  rw [runS_cons hs] at h; exact h

set_option maxRecDepth 100000 in
set_option maxHeartbeats 4000000 in
theorem function_any {w : World} {m t bn bm L I K : Nat} {N : Tab} (h : Mk w m t bn bm L I K N) {v : Value} {e : Ex} {w0 : World} (hv : WS w0 v e.post) (hk0 : Keeps [] w0 w) (h0 : w0.heap.size ≤ t ∧ w0.heap.size ≤ bn ∧ w0.heap.size ≤ bm) (hwf : e.wf) (hlen : e.post.length ≤ 2000) {M nM : Nat} {P : List (W × Int)} (hM : MapIs w Tryz.prog 9 M nM (pairG P)) (hMS : M ∉ [t, bn, bm]) (hlev : ∀ x ∈ e.names, ∃ k, pairF P x = some k ∧ 0 ≤ k ∧ k < ((2 * L + I : Nat) : Int)) (hK : K + 10000000 ≤ Big) :
    Calls Tryz.prog 36 #[.pointer (some ⟨m, 0, none⟩), v, .map (some M)] w fun e' w' => Res w m t bn bm L I (K + 10000000) N (fnE (levP P) e) e' w' := by
  obtain ⟨i0, hi0, hz0, hz1, hz2⟩ := info_parts infoFn
  obtain ⟨va, cap, rfl, hcap, hmx, hcell⟩ := hv
  have hml : 2000000 < maxLen := by decide
  obtain ⟨b1, b2, b3⟩ := h.blocks
  have hmw := h.lt
  obtain ⟨len, hlen'⟩ : ∃ len, len = e.post.length := ⟨_, rfl⟩
  rw [← hlen'] at hlen hcap ⊢
  have HLen := hid_intro hlen'
  have HC := hid_intro hcell
  have HM := hid_intro h
  have HWf := hid_intro hwf
  have HMap := hid_intro hM
  have HLev := hid_intro hlev
  have HMS := hid_intro hMS
  clear hcell h hwf hM hlev hlen' hMS
  go_enter Tryz.func36, Tryz.ntmps36
  go_wp2_with fail
  go_loopw [7, 13] (fun y x wr => ∃ (j : Nat) (a : Option Addr) (n c : Nat), j ≤ len ∧ x = .int .i64 j ∧ y = .slice a n c ∧ FunInv w m t bn bm L I K N P e j a n c wr) (fun _ x _ => len - (intOf x).toNat)
  case atStart =>
    exact ⟨0, none, 0, 0, by omega, rfl, rfl, [], [], N, K, rfl, World.ownsRow_nil _ _ _ _, by simp, trivial, runS_all _ HWf.out, HM.out, by omega, Ext.refl _, Keeps.refl _ _⟩
  case round =>
    obtain ⟨j, a, n, c, hj, rfl, rfl, rs, st, N', KK, hn, hrow, hrj, hvals, hrun, hmk, hKK, hext, hk⟩ := hrel
    by_cases hlt : j < len
    · have hj0 : (0 : Int) ≤ (j : Int) := by omega
      have hj1 : (j : Int) < (len : Int) := by omega
      have hjl : j < e.post.length := by rw [← HLen.out]; exact hlt
      obtain ⟨vb, vo, hva, _, hvb, z0⟩ := HC.out j hjl
      have z1 := hk.cell (hk0.cell z0 (by simp)) (by simp; omega)
      have hwd := post_word HWf.out _ (List.getElem_mem hjl)
      have hmem := List.getElem_mem hjl
      rw [List.drop_eq_getElem_cons hjl] at hrun
      obtain ⟨x, hx⟩ : ∃ x, x = e.post[j] := ⟨_, rfl⟩
      rw [← hx] at z1 hwd hrun hmem
      subst hva
      subst hn
      have HRow := hid_intro hrow
      have HVals := hid_intro hvals
      have HRun := hid_intro hrun
      have HMk := hid_intro hmk
      have HExt := hid_intro hext
      have HMem := hid_intro hmem
      have hbw : w.heap.size ≤ wr.heap.size := hk.size
      clear hx hrow hvals hrun hmk hext z0 hmem
      rcases hwd with rfl | rfl | rfl | rfl | rfl | rfl | hnm
      · have q : (ByteArray.toList zer == [48]) = true := lit_eq zer [48] true (by decide)
        go_wp2_with (first
          | (at_builtin; refine wpList_append_own_at _ rfl _ _ 101 rfl w.heap.size 88 i0 (.int .i64 0) 1 8 Tryz.underlying101 hi0 hz0 hz1 hz2 rfl (by decide) _ rs.length (cellsR rs) rfl (HRow.out.alloc _) ⟨wr.heap.size, 0, none⟩ 1 1 [.int .i64 0] rfl rfl (cells_new _ _ _) (by simp [Value.oneCell']) (by omega) (by omega) (by simp; omega) ?_; intro v' w1 hown' hgrow hnil hloc; obtain ⟨g', cap', rfl⟩ := own_slice hown'; have HOW := hid_intro hown'; have HGR := hid_intro hgrow; clear hown' hgrow hloc hnil)
          | fail)
        exact ⟨⟨j + 1, _, _, _, by omega, by go_num, rfl, FunInv.push HRow.out HOW.out HGR.out hrj ⟨val_zero HMk.out, HVals.out⟩ (run_push HRun.out (by unfold stepS; rw [if_pos rfl])) HMk.out hmw ⟨b1, b2, b3⟩ (by omega) HExt.out hk⟩, by simp [intOf]; omega⟩
      · have q0 : (ByteArray.toList one == [48]) = false := lit_eq one [48] false (by decide)
        have q : (ByteArray.toList one == [49]) = true := lit_eq one [49] true (by decide)
        go_wp2_with (first
          | (at_builtin; refine wpList_append_own_at _ rfl _ _ 101 rfl w.heap.size 88 i0 (.int .i64 0) 1 8 Tryz.underlying101 hi0 hz0 hz1 hz2 rfl (by decide) _ rs.length (cellsR rs) rfl (HRow.out.alloc _) ⟨wr.heap.size, 0, none⟩ 1 1 [.int .i64 1] rfl rfl (cells_new _ _ _) (by simp [Value.oneCell']) (by omega) (by omega) (by simp; omega) ?_; intro v' w1 hown' hgrow hnil hloc; obtain ⟨g', cap', rfl⟩ := own_slice hown'; have HOW := hid_intro hown'; have HGR := hid_intro hgrow; clear hown' hgrow hloc hnil)
          | fail)
        exact ⟨⟨j + 1, _, _, _, by omega, by go_num, rfl, FunInv.push HRow.out HOW.out HGR.out hrj ⟨val_one HMk.out, HVals.out⟩ (run_push HRun.out (by unfold stepS; rw [if_neg (by decide), if_pos rfl])) HMk.out hmw ⟨b1, b2, b3⟩ (by omega) HExt.out hk⟩, by simp [intOf]; omega⟩
      · have n0 : (ByteArray.toList bang == [48]) = false := lit_eq bang [48] false (by decide)
        have n1 : (ByteArray.toList bang == [49]) = false := lit_eq bang [49] false (by decide)
        have n2 : (ByteArray.toList bang == [33]) = true := lit_eq bang [33] true (by decide)
        obtain ⟨f, st', rfl⟩ : ∃ f st', st = f :: st' := by
          cases st with
          | nil =>
            have := HRun.out
            simp [runS, stepS, show ¬ bang = zer by decide, show ¬ bang = one by decide] at this
          | cons f st' => exact ⟨f, st', rfl⟩
        obtain ⟨r, rs', rfl⟩ : ∃ r rs', rs = r :: rs' := by
          cases rs with
          | nil => exact HVals.out.elim
          | cons r rs' => exact ⟨r, rs', rfl⟩
        have hrow0 := HRow.out
        obtain ⟨g, cap', hgv⟩ := own_slice hrow0
        obtain ⟨rfl, rfl⟩ : a = some ⟨g, 0, none⟩ ∧ c = cap' := by simpa using hgv
        have hcl : wr.cell? ⟨g, rs'.length, none⟩ = some (.int .i64 r) := by
          have := hrow0.cellAt rs'.length (by simp)
          rw [this, cellsR_cons, List.getElem?_append_right (by rw [cellsR_len]; omega), cellsR_len]
          simp
        have hgb := (hrow0.lt g rfl).1
        have hgl := (hrow0.lt g rfl).2
        have hmd : Mk wr.drew m t bn bm L I KK N' := HMk.out.keeps (S := []) (Keeps.refl [] wr).drew (by simp) (by simp) (by simp) (by simp)
        have HMd := hid_intro hmd
        have c0d := HMk.out.c0
        have HRowd : Hid (wr.drew.ownsRow w.heap.size 88 1 (.slice (some ⟨g, 0, none⟩) (rs'.length + 1) c) (rs'.length + 1) (cellsR (r :: rs'))) := hrow0
        have hl0 : (rs'.length : Int) < (rs'.length : Int) + 1 := by omega
        have hl1 : rs'.length + 1 ≤ j := hrj
        clear hmd hrow0 hgv
        obtain ⟨q, hq⟩ : ∃ q, q = rs'.length := ⟨_, rfl⟩
        have HQ := hid_intro hq
        simp only [List.length_cons]
        rw [← hq] at hcl HRowd hl0 hl1 ⊢
        clear hq HRow hrj
        have HCl := hid_intro hcl
        go_wp2_with fail
        go_region_with (go_at_call 39; refine (mnot HMd.out HVals.out.1 ?z2).mono ?_; (case z2 => omega); rintro e1 w1 ⟨r1, N1, rfl, g1, g2, g3, g4⟩; have hcl1 := g4.cell (p := ⟨g, q, none⟩) HCl.out (by simp; omega); have hrow1 := row_keeps HRowd.out g4 (by intro i hi; simp at hi; omega); have hfr1 := hrow1.frozenAt q)
        all_goals
          have G1 := hid_intro g1
          have G2 := hid_intro g2
          have G3 := hid_intro g3
          have HR1 := hid_intro hrow1
          clear g1 g2 g3 hrow1
          go_wp2_with fail
          exact ⟨⟨j + 1, _, _, _, by omega, by go_num, rfl, FunInv.top (f := fun a => !f a) HR1.out HQ.out hgb hl1 ⟨G3.out, (HVals.out.ext G2.out).2⟩ (by have := HRun.out; rw [runS_cons stepS_not] at this; exact this) G1.out hmw ⟨b1, b2, b3⟩ (by omega) (HExt.out.trans G2.out) ((hk.drew).trans g4)⟩, by simp [intOf]; omega⟩
      · have n0 : (ByteArray.toList (sg 0) == [48]) = false := lit_eq (sg 0) [48] false (by decide)
        have n1 : (ByteArray.toList (sg 0) == [49]) = false := lit_eq (sg 0) [49] false (by decide)
        have n2 : (ByteArray.toList (sg 0) == [33]) = false := lit_eq (sg 0) [33] false (by decide)
        have n3 : (ByteArray.toList (sg 0) == [38]) = false := lit_eq (sg 0) [38] false (by decide)
        have n4 : (ByteArray.toList (sg 0) == [94]) = false := lit_eq (sg 0) [94] false (by decide)
        have n5 : (ByteArray.toList (sg 0) == [124]) = true := lit_eq (sg 0) [124] true (by decide)
        obtain ⟨f2, f, st', rfl⟩ : ∃ f2 f st', st = f2 :: f :: st' := by
          have := HRun.out
          match st, this with
          | [], this => simp [runS, stepS, show ¬ sg 0 = zer by decide, show ¬ sg 0 = one by decide, show ¬ sg 0 = bang by decide] at this
          | [_], this => simp [runS, stepS, show ¬ sg 0 = zer by decide, show ¬ sg 0 = one by decide, show ¬ sg 0 = bang by decide] at this
          | f2 :: f :: st', _ => exact ⟨f2, f, st', rfl⟩
        obtain ⟨r2, r, rs', rfl⟩ : ∃ r2 r rs', rs = r2 :: r :: rs' := by
          have := HVals.out
          match rs, this with
          | [], this => exact this.elim
          | [_], this => exact this.2.elim
          | r2 :: r :: rs', _ => exact ⟨r2, r, rs', rfl⟩
        have hrow0 := HRow.out
        obtain ⟨g, cap', hgv⟩ := own_slice hrow0
        obtain ⟨rfl, rfl⟩ : a = some ⟨g, 0, none⟩ ∧ c = cap' := by simpa using hgv
        have hcl : wr.cell? ⟨g, rs'.length, none⟩ = some (.int .i64 r) := by
          have := hrow0.cellAt rs'.length (by simp; omega)
          rw [this, cellsR_cons, cellsR_cons, List.append_assoc, List.getElem?_append_right (by rw [cellsR_len]; omega), cellsR_len]
          simp
        have hcl2 : wr.cell? ⟨g, rs'.length + 1, none⟩ = some (.int .i64 r2) := by
          have := hrow0.cellAt (rs'.length + 1) (by simp)
          rw [this, cellsR_cons, cellsR_cons, List.append_assoc, List.getElem?_append_right (by rw [cellsR_len]; omega), cellsR_len]
          simp
        have hgb := (hrow0.lt g rfl).1
        have hgl := (hrow0.lt g rfl).2
        have hmd : Mk wr.drew m t bn bm L I KK N' := HMk.out.keeps (S := []) (Keeps.refl [] wr).drew (by simp) (by simp) (by simp) (by simp)
        have HMd := hid_intro hmd
        have c0d := HMk.out.c0
        have HRowd : Hid (wr.drew.ownsRow w.heap.size 88 1 (.slice (some ⟨g, 0, none⟩) (rs'.length + 1 + 1) c) (rs'.length + 1 + 1) (cellsR (r2 :: r :: rs'))) := hrow0
        have HPop : Hid (∀ W : World, W.ownsRow w.heap.size 88 1 (.slice (some ⟨g, 0, none⟩) (rs'.length + 1 + 1) c) (rs'.length + 1 + 1) (cellsR (r2 :: r :: rs')) → W.ownsRow w.heap.size 88 1 (.slice (some ⟨g, 0, none⟩) rs'.length c) rs'.length (cellsR rs')) := fun W hW => by
          rw [cellsR_cons, cellsR_cons] at hW
          exact ownsRow_pop (by rw [cellsR_len]; omega) (ownsRow_pop (by rw [List.length_append, cellsR_len]; simp) hW)
        have hl1 : rs'.length + 1 + 1 ≤ j := hrj
        have hcc : rs'.length + 1 + 1 ≤ c := by
          rcases hrow0.2 with ⟨_, hz⟩ | ⟨_, _, _, hv, _, _, hle, _⟩
          · simp at hz
          · simp at hv hle; omega
        clear hmd hrow0 hgv
        obtain ⟨q, hq⟩ : ∃ q, q = rs'.length := ⟨_, rfl⟩
        have HQ := hid_intro hq
        simp only [List.length_cons]
        rw [← hq] at hcl hcl2 HRowd HPop hl1 hcc ⊢
        clear hq HRow hrj
        have hq0 : (0 : Int) ≤ (q : Int) := by omega
        have hqc : (q : Int) ≤ (c : Int) := by omega
        have hqc2 : q ≤ c := by omega
        have hi5 : (q : Int) < (q : Int) + 1 + 1 := by omega
        have hi7 : (0 : Int) ≤ (q : Int) + 1 := by omega
        have hi6 : (q : Int) + 1 < (q : Int) + 1 + 1 := by omega
        have hwq : IntKind.i64.wrap (q : Int) = (q : Int) := IntWalk.i64_in _ ⟨by omega, by omega⟩
        have hwq1 : IntKind.i64.wrap ((q : Int) + 1) = (q : Int) + 1 := IntWalk.i64_in _ ⟨by omega, by omega⟩
        go_wp2_with fail
        go_region_law (first
          | (go_simp; go_at_call 43; refine (or_any HMd.out HVals.out.2.1 HVals.out.1 ?z2).mono ?_; (case z2 => omega); rintro e1 w1 ⟨r1, N1, rfl, g1, g2, g3, g4⟩; have hrow1 := HPop.out _ (row_keeps HRowd.out g4 (by intro i hi; simp at hi; omega)); have hsz1 := g4.size)
          | (refine step_append_lies _ (by rfl) _ _ 101 (by rfl) w.heap.size 88 i0 (.int .i64 0) 1 8 Tryz.underlying101 hi0 hz0 hz1 hz2 rfl (by decide) _ q (cellsR rs') (by rfl) (hrow1.alloc _) ⟨w1.heap.size, 0, none⟩ 1 1 [.int .i64 r1] (by rfl) rfl (cells_new _ _ _) (by simp [Value.oneCell']) (by omega) (by omega) (by omega) (by have := hbw; simp at hsz1 ⊢; omega) (w1.heap.size + 1) (by simp) ?_; intro g' cap' w2 hown hgrow hat hlt2))
        all_goals
          have HOW := hid_intro hown
          have HGR := hid_intro hgrow
          have HR1 := hid_intro hrow1
          have G1 := hid_intro g1
          have G2 := hid_intro g2
          have G3 := hid_intro g3
          clear hown hgrow hrow1 g1 g2 g3 hcl hcl2
          go_wp2_with fail
          have hq := HQ.out
          subst hq
          exact ⟨⟨j + 1, _, _, _, by omega, by go_num, rfl, FunInv.push (r := r1) (f := fun a => f a || f2 a) HR1.out HOW.out HGR.out (by omega) ⟨G3.out, (HVals.out.ext G2.out).2.2⟩ (by have := HRun.out; rw [runS_cons (stepS_bin (by omega))] at this; exact this) G1.out hmw ⟨b1, b2, b3⟩ (by omega) (HExt.out.trans G2.out) ((hk.drew).trans g4)⟩, by simp [intOf]; omega⟩
      · have n0 : (ByteArray.toList (sg 1) == [48]) = false := lit_eq (sg 1) [48] false (by decide)
        have n1 : (ByteArray.toList (sg 1) == [49]) = false := lit_eq (sg 1) [49] false (by decide)
        have n2 : (ByteArray.toList (sg 1) == [33]) = false := lit_eq (sg 1) [33] false (by decide)
        have n3 : (ByteArray.toList (sg 1) == [38]) = false := lit_eq (sg 1) [38] false (by decide)
        have n4 : (ByteArray.toList (sg 1) == [94]) = true := lit_eq (sg 1) [94] true (by decide)
        obtain ⟨f2, f, st', rfl⟩ : ∃ f2 f st', st = f2 :: f :: st' := by
          have := HRun.out
          match st, this with
          | [], this => simp [runS, stepS, show ¬ sg 1 = zer by decide, show ¬ sg 1 = one by decide, show ¬ sg 1 = bang by decide] at this
          | [_], this => simp [runS, stepS, show ¬ sg 1 = zer by decide, show ¬ sg 1 = one by decide, show ¬ sg 1 = bang by decide] at this
          | f2 :: f :: st', _ => exact ⟨f2, f, st', rfl⟩
        obtain ⟨r2, r, rs', rfl⟩ : ∃ r2 r rs', rs = r2 :: r :: rs' := by
          have := HVals.out
          match rs, this with
          | [], this => exact this.elim
          | [_], this => exact this.2.elim
          | r2 :: r :: rs', _ => exact ⟨r2, r, rs', rfl⟩
        have hrow0 := HRow.out
        obtain ⟨g, cap', hgv⟩ := own_slice hrow0
        obtain ⟨rfl, rfl⟩ : a = some ⟨g, 0, none⟩ ∧ c = cap' := by simpa using hgv
        have hcl : wr.cell? ⟨g, rs'.length, none⟩ = some (.int .i64 r) := by
          have := hrow0.cellAt rs'.length (by simp; omega)
          rw [this, cellsR_cons, cellsR_cons, List.append_assoc, List.getElem?_append_right (by rw [cellsR_len]; omega), cellsR_len]
          simp
        have hcl2 : wr.cell? ⟨g, rs'.length + 1, none⟩ = some (.int .i64 r2) := by
          have := hrow0.cellAt (rs'.length + 1) (by simp)
          rw [this, cellsR_cons, cellsR_cons, List.append_assoc, List.getElem?_append_right (by rw [cellsR_len]; omega), cellsR_len]
          simp
        have hgb := (hrow0.lt g rfl).1
        have hgl := (hrow0.lt g rfl).2
        have hmd : Mk wr.drew m t bn bm L I KK N' := HMk.out.keeps (S := []) (Keeps.refl [] wr).drew (by simp) (by simp) (by simp) (by simp)
        have HMd := hid_intro hmd
        have c0d := HMk.out.c0
        have HRowd : Hid (wr.drew.ownsRow w.heap.size 88 1 (.slice (some ⟨g, 0, none⟩) (rs'.length + 1 + 1) c) (rs'.length + 1 + 1) (cellsR (r2 :: r :: rs'))) := hrow0
        have HPop : Hid (∀ W : World, W.ownsRow w.heap.size 88 1 (.slice (some ⟨g, 0, none⟩) (rs'.length + 1 + 1) c) (rs'.length + 1 + 1) (cellsR (r2 :: r :: rs')) → W.ownsRow w.heap.size 88 1 (.slice (some ⟨g, 0, none⟩) rs'.length c) rs'.length (cellsR rs')) := fun W hW => by
          rw [cellsR_cons, cellsR_cons] at hW
          exact ownsRow_pop (by rw [cellsR_len]; omega) (ownsRow_pop (by rw [List.length_append, cellsR_len]; simp) hW)
        have hl1 : rs'.length + 1 + 1 ≤ j := hrj
        have hcc : rs'.length + 1 + 1 ≤ c := by
          rcases hrow0.2 with ⟨_, hz⟩ | ⟨_, _, _, hv, _, _, hle, _⟩
          · simp at hz
          · simp at hv hle; omega
        clear hmd hrow0 hgv
        obtain ⟨q, hq⟩ : ∃ q, q = rs'.length := ⟨_, rfl⟩
        have HQ := hid_intro hq
        simp only [List.length_cons]
        rw [← hq] at hcl hcl2 HRowd HPop hl1 hcc ⊢
        clear hq HRow hrj
        have hq0 : (0 : Int) ≤ (q : Int) := by omega
        have hqc : (q : Int) ≤ (c : Int) := by omega
        have hqc2 : q ≤ c := by omega
        have hi5 : (q : Int) < (q : Int) + 1 + 1 := by omega
        have hi7 : (0 : Int) ≤ (q : Int) + 1 := by omega
        have hi6 : (q : Int) + 1 < (q : Int) + 1 + 1 := by omega
        have hwq : IntKind.i64.wrap (q : Int) = (q : Int) := IntWalk.i64_in _ ⟨by omega, by omega⟩
        have hwq1 : IntKind.i64.wrap ((q : Int) + 1) = (q : Int) + 1 := IntWalk.i64_in _ ⟨by omega, by omega⟩
        go_wp2_with fail
        go_region_law (first
          | (go_simp; go_at_call 66; refine (mcombine HMd.out 2 HVals.out.2.1 HVals.out.1 ?z2).mono ?_; (case z2 => omega); rintro e1 w1 ⟨r1, N1, rfl, g1, g2, g3, g4⟩; have hrow1 := HPop.out _ (row_keeps HRowd.out g4 (by intro i hi; simp at hi; omega)); have hsz1 := g4.size)
          | (refine step_append_lies _ (by rfl) _ _ 101 (by rfl) w.heap.size 88 i0 (.int .i64 0) 1 8 Tryz.underlying101 hi0 hz0 hz1 hz2 rfl (by decide) _ q (cellsR rs') (by rfl) (hrow1.alloc _) ⟨w1.heap.size, 0, none⟩ 1 1 [.int .i64 r1] (by rfl) rfl (cells_new _ _ _) (by simp [Value.oneCell']) (by omega) (by omega) (by omega) (by have := hbw; simp at hsz1 ⊢; omega) (w1.heap.size + 1) (by simp) ?_; intro g' cap' w2 hown hgrow hat hlt2))
        all_goals
          have HOW := hid_intro hown
          have HGR := hid_intro hgrow
          have HR1 := hid_intro hrow1
          have G1 := hid_intro g1
          have G2 := hid_intro g2
          have G3 := hid_intro g3
          clear hown hgrow hrow1 g1 g2 g3 hcl hcl2
          go_wp2_with fail
          have hq := HQ.out
          subst hq
          exact ⟨⟨j + 1, _, _, _, by omega, by go_num, rfl, FunInv.push (r := r1) (f := fun a => f a != f2 a) HR1.out HOW.out HGR.out (by omega) ⟨G3.out, (HVals.out.ext G2.out).2.2⟩ (by have := HRun.out; rw [runS_cons (stepS_bin (by omega))] at this; exact this) G1.out hmw ⟨b1, b2, b3⟩ (by omega) (HExt.out.trans G2.out) ((hk.drew).trans g4)⟩, by simp [intOf]; omega⟩
      · have n0 : (ByteArray.toList (sg 2) == [48]) = false := lit_eq (sg 2) [48] false (by decide)
        have n1 : (ByteArray.toList (sg 2) == [49]) = false := lit_eq (sg 2) [49] false (by decide)
        have n2 : (ByteArray.toList (sg 2) == [33]) = false := lit_eq (sg 2) [33] false (by decide)
        have n3 : (ByteArray.toList (sg 2) == [38]) = true := lit_eq (sg 2) [38] true (by decide)
        obtain ⟨f2, f, st', rfl⟩ : ∃ f2 f st', st = f2 :: f :: st' := by
          have := HRun.out
          match st, this with
          | [], this => simp [runS, stepS, show ¬ sg 2 = zer by decide, show ¬ sg 2 = one by decide, show ¬ sg 2 = bang by decide] at this
          | [_], this => simp [runS, stepS, show ¬ sg 2 = zer by decide, show ¬ sg 2 = one by decide, show ¬ sg 2 = bang by decide] at this
          | f2 :: f :: st', _ => exact ⟨f2, f, st', rfl⟩
        obtain ⟨r2, r, rs', rfl⟩ : ∃ r2 r rs', rs = r2 :: r :: rs' := by
          have := HVals.out
          match rs, this with
          | [], this => exact this.elim
          | [_], this => exact this.2.elim
          | r2 :: r :: rs', _ => exact ⟨r2, r, rs', rfl⟩
        have hrow0 := HRow.out
        obtain ⟨g, cap', hgv⟩ := own_slice hrow0
        obtain ⟨rfl, rfl⟩ : a = some ⟨g, 0, none⟩ ∧ c = cap' := by simpa using hgv
        have hcl : wr.cell? ⟨g, rs'.length, none⟩ = some (.int .i64 r) := by
          have := hrow0.cellAt rs'.length (by simp; omega)
          rw [this, cellsR_cons, cellsR_cons, List.append_assoc, List.getElem?_append_right (by rw [cellsR_len]; omega), cellsR_len]
          simp
        have hcl2 : wr.cell? ⟨g, rs'.length + 1, none⟩ = some (.int .i64 r2) := by
          have := hrow0.cellAt (rs'.length + 1) (by simp)
          rw [this, cellsR_cons, cellsR_cons, List.append_assoc, List.getElem?_append_right (by rw [cellsR_len]; omega), cellsR_len]
          simp
        have hgb := (hrow0.lt g rfl).1
        have hgl := (hrow0.lt g rfl).2
        have hmd : Mk wr.drew m t bn bm L I KK N' := HMk.out.keeps (S := []) (Keeps.refl [] wr).drew (by simp) (by simp) (by simp) (by simp)
        have HMd := hid_intro hmd
        have c0d := HMk.out.c0
        have HRowd : Hid (wr.drew.ownsRow w.heap.size 88 1 (.slice (some ⟨g, 0, none⟩) (rs'.length + 1 + 1) c) (rs'.length + 1 + 1) (cellsR (r2 :: r :: rs'))) := hrow0
        have HPop : Hid (∀ W : World, W.ownsRow w.heap.size 88 1 (.slice (some ⟨g, 0, none⟩) (rs'.length + 1 + 1) c) (rs'.length + 1 + 1) (cellsR (r2 :: r :: rs')) → W.ownsRow w.heap.size 88 1 (.slice (some ⟨g, 0, none⟩) rs'.length c) rs'.length (cellsR rs')) := fun W hW => by
          rw [cellsR_cons, cellsR_cons] at hW
          exact ownsRow_pop (by rw [cellsR_len]; omega) (ownsRow_pop (by rw [List.length_append, cellsR_len]; simp) hW)
        have hl1 : rs'.length + 1 + 1 ≤ j := hrj
        have hcc : rs'.length + 1 + 1 ≤ c := by
          rcases hrow0.2 with ⟨_, hz⟩ | ⟨_, _, _, hv, _, _, hle, _⟩
          · simp at hz
          · simp at hv hle; omega
        clear hmd hrow0 hgv
        obtain ⟨q, hq⟩ : ∃ q, q = rs'.length := ⟨_, rfl⟩
        have HQ := hid_intro hq
        simp only [List.length_cons]
        rw [← hq] at hcl hcl2 HRowd HPop hl1 hcc ⊢
        clear hq HRow hrj
        have hq0 : (0 : Int) ≤ (q : Int) := by omega
        have hqc : (q : Int) ≤ (c : Int) := by omega
        have hqc2 : q ≤ c := by omega
        have hi5 : (q : Int) < (q : Int) + 1 + 1 := by omega
        have hi7 : (0 : Int) ≤ (q : Int) + 1 := by omega
        have hi6 : (q : Int) + 1 < (q : Int) + 1 + 1 := by omega
        have hwq : IntKind.i64.wrap (q : Int) = (q : Int) := IntWalk.i64_in _ ⟨by omega, by omega⟩
        have hwq1 : IntKind.i64.wrap ((q : Int) + 1) = (q : Int) + 1 := IntWalk.i64_in _ ⟨by omega, by omega⟩
        go_wp2_with fail
        go_region_law (first
          | (go_simp; go_at_call 34; refine (and_any HMd.out HVals.out.2.1 HVals.out.1 ?z2).mono ?_; (case z2 => omega); rintro e1 w1 ⟨r1, N1, rfl, g1, g2, g3, g4⟩; have hrow1 := HPop.out _ (row_keeps HRowd.out g4 (by intro i hi; simp at hi; omega)); have hsz1 := g4.size)
          | (refine step_append_lies _ (by rfl) _ _ 101 (by rfl) w.heap.size 88 i0 (.int .i64 0) 1 8 Tryz.underlying101 hi0 hz0 hz1 hz2 rfl (by decide) _ q (cellsR rs') (by rfl) (hrow1.alloc _) ⟨w1.heap.size, 0, none⟩ 1 1 [.int .i64 r1] (by rfl) rfl (cells_new _ _ _) (by simp [Value.oneCell']) (by omega) (by omega) (by omega) (by have := hbw; simp at hsz1 ⊢; omega) (w1.heap.size + 1) (by simp) ?_; intro g' cap' w2 hown hgrow hat hlt2))
        all_goals
          have HOW := hid_intro hown
          have HGR := hid_intro hgrow
          have HR1 := hid_intro hrow1
          have G1 := hid_intro g1
          have G2 := hid_intro g2
          have G3 := hid_intro g3
          clear hown hgrow hrow1 g1 g2 g3 hcl hcl2
          go_wp2_with fail
          have hq := HQ.out
          subst hq
          exact ⟨⟨j + 1, _, _, _, by omega, by go_num, rfl, FunInv.push (r := r1) (f := fun a => f a && f2 a) HR1.out HOW.out HGR.out (by omega) ⟨G3.out, (HVals.out.ext G2.out).2.2⟩ (by have := HRun.out; rw [runS_cons (stepS_bin (by omega))] at this; exact this) G1.out hmw ⟨b1, b2, b3⟩ (by omega) (HExt.out.trans G2.out) ((hk.drew).trans g4)⟩, by simp [intOf]; omega⟩
      · have n0 : (ByteArray.toList x == [48]) = false := lit_eq x [48] false (decide_eq_false (name_ne hnm nn_zer))
        have n1 : (ByteArray.toList x == [49]) = false := lit_eq x [49] false (decide_eq_false (name_ne hnm nn_one))
        have n2 : (ByteArray.toList x == [33]) = false := lit_eq x [33] false (decide_eq_false (name_ne hnm nn_bang))
        have n3 : (ByteArray.toList x == [38]) = false := lit_eq x [38] false (decide_eq_false (name_ne hnm (nn_sg 2)))
        have n4 : (ByteArray.toList x == [94]) = false := lit_eq x [94] false (decide_eq_false (name_ne hnm (nn_sg 1)))
        have n5 : (ByteArray.toList x == [124]) = false := lit_eq x [124] false (decide_eq_false (name_ne hnm (nn_sg 0)))
        have hin : x ∈ e.names := by rw [← post_names HWf.out]; exact List.mem_filter.2 ⟨HMem.out, hnm⟩
        obtain ⟨k, hpf, hk0', hk1'⟩ := HLev.out x hin
        have hlk : (Instr.lookup 91 (.map (some M)) (.string x) false).run Tryz.prog wr.drew = .ok (.int .i64 k) wr.drew := by
          rw [((HMap.out.keeps hk.drew HMS.out).look lawStr Tryz.underlying91 (zeroI _) (keyStr (isName_size hnm))).2]
          show Result.ok (((pairF P x).map fun (i : Int) => Value.int .i64 i).getD (.int .i64 0)) _ = _
          rw [hpf]; rfl
        have hst := hid_intro (stepS_name (lev := levP P) (st := st) hnm)
        have HKx := hid_intro (show levP P x = k by unfold levP; rw [hpf]; rfl)
        have hmd : Mk wr.drew m t bn bm L I KK N' := HMk.out.keeps (S := []) (Keeps.refl [] wr).drew (by simp) (by simp) (by simp) (by simp)
        have HMd := hid_intro hmd
        have s0 : wr.drew.cell? ⟨m, 0, none⟩ = some (.pointer (some ⟨t, 0, none⟩)) ∧ True := ⟨hmd.c0, trivial⟩
        have hrowd : wr.drew.ownsRow w.heap.size 88 1 (.slice a rs.length c) rs.length (cellsR rs) := HRow.out
        have HRowd := hid_intro hrowd
        clear hin hpf hmd hrowd
        go_wp2_with fail
        go_region_held3 (fun w' => w'.cell? ⟨m, 0, none⟩ = some (.pointer (some ⟨t, 0, none⟩)) ∧ True)
          (first | exact s0 | exact s1 _ | exact s2 | exact s3 | assumption)
          (first
            | (go_at_call 37; refine (mvariable HMd.out hk0' hk1' ?z2).mono ?_; (case z2 => omega); rintro e1 w1 ⟨r1, N1, rfl, g1, g2, g3, g4⟩; have s2 := And.intro g1.c0 trivial; have s1 := fun o => And.intro (((Keeps.refl [] w1).alloc o).cell g1.c0 (by simp)) trivial; have hrow1 := row_keeps HRowd.out g4 (by intro i hi; simp at hi; omega); have hsz1 := g4.size)
            | (refine step_append_lies _ (by rfl) _ _ 101 (by rfl) w.heap.size 88 i0 (.int .i64 0) 1 8 Tryz.underlying101 hi0 hz0 hz1 hz2 rfl (by decide) _ rs.length (cellsR rs) (by rfl) (hrow1.alloc _) ⟨w1.heap.size, 0, none⟩ 1 1 [.int .i64 r1] (by rfl) rfl (cells_new _ _ _) (by simp [Value.oneCell']) (by omega) (by omega) (by omega) (by have := hbw; simp at hsz1 ⊢; omega) (w1.heap.size + 1) (by simp) ?_; intro g' cap' w2 hown hgrow hat hlt2; have s3 := And.intro (cell_push hrow1 hgrow hmw g1.c0) trivial))
        have HOW := hid_intro hown
        have HGR := hid_intro hgrow
        have HR1 := hid_intro hrow1
        have G1 := hid_intro g1
        have G2 := hid_intro g2
        have G3 := hid_intro g3
        clear hown hgrow hrow1 g1 g2 g3 s0 s1 s2 s3 hlk HMd HRowd
        go_wp2_with fail
        refine ⟨⟨j + 1, _, _, _, by omega, by go_num, rfl, FunInv.push (r := r1) (f := fun a => a (levP P x)) HR1.out HOW.out HGR.out hrj ⟨by rw [HKx.out]; exact G3.out, HVals.out.ext G2.out⟩ (run_push HRun.out hst.out) G1.out hmw ⟨b1, b2, b3⟩ (by omega) (HExt.out.trans G2.out) ((hk.drew).trans g4)⟩, by simp [intOf]; omega⟩
    · obtain rfl : j = len := by omega
      rw [show e.post.drop j = [] by rw [HLen.out]; exact List.drop_length] at hrun
      have hst : st = [fnE (levP P) e] := by simpa [runS] using hrun
      subst hst
      obtain ⟨r, rfl⟩ : ∃ r, rs = [r] := by
        have := hvals.len
        match rs, this with
        | [r], _ => exact ⟨r, rfl⟩
      subst hn
      obtain ⟨g, cap', hgv⟩ := own_slice hrow
      obtain ⟨rfl, rfl⟩ : a = some ⟨g, 0, none⟩ ∧ c = cap' := by simpa using hgv
      have hc0 := hrow.cellAt 0 (by simp)
      have hc1 : wr.cell? ⟨g, 0, none⟩ = some (.int .i64 r) := by rw [hc0]; rfl
      have HV := hid_intro hvals.1
      have HMk := hid_intro hmk
      have HExt := hid_intro hext
      clear hrun hvals hmk hext hrow hc0 hgv
      go_wp2_with fail
      go_ret
      exact ⟨r, N', rfl, HMk.out.mono (by omega), HExt.out, HV.out, hk⟩

end Go.Proofs.YtmgjegokkbghlaaGreatDoor
