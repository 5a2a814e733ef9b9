/- The call Exists. -/
import Derived.Test.YtpadcllamejioaaFormc
import Derived.Test.YtpadcllamejioaaBits
namespace Go.Proofs.Ytpadcllamejioaa
open Go.RowKit Go.Maps Bdd
attribute [local go_sem ↓] Go.wp_at_zero Go.wp_at_succ

/-- a new list of so many zero values -/
def fillV (z : Value) (L : Nat) : Array Value := (Array.range L).map fun _ => z
theorem fillV_get (z : Value) {L k : Nat} (hk : k < L) : (fillV z L)[k]? = some z := by simp [fillV, hk]
theorem made_fill (z : Value) (hz : z.cells = #[z]) (L : Nat) : madeCells z.cells (L * 1) = fillV z L := by
  rw [hz, Nat.mul_one]
  unfold madeCells fillV
  congr 1
  funext x
  simp [Nat.mod_one]
theorem make_run {t e : TypeId} {i : TypeInfo} {z : Value} {bytes : Nat} (ht : Try.prog.underlying t = some (.slice e)) (hi : Try.prog.info? e = some i) (hz : i.zero = some z) (hs : i.size = 1) (hb : i.bytes = bytes) (hb8 : bytes ≤ 8) (hzc : z.cells = #[z]) {L : Nat} (hL : L ≤ 8) :
    ∀ w : World, (Instr.makeSlice t (.int .i64 (L : Int)) (.int .i64 (L : Int))).run Try.prog w = .ok (.slice (some ⟨w.heap.size, 0, none⟩) L L) (w.alloc (.cells (fillV z L) e)) := by
  intro w
  have hbb : ((i.bytes : Nat) : Int) * (L : Int) ≤ 281474976710656 := by
    have : i.bytes * L ≤ 8 * 8 := Nat.mul_le_mul (by omega) hL
    have h2 : ((i.bytes * L : Nat) : Int) ≤ 64 := by omega
    rw [Int.natCast_mul] at h2
    omega
  have := run_make (P := Try.prog) w t e i z ht hi hz .i64 .i64 (L : Int) (L : Int) (by omega) (by omega) hbb (by omega)
  rw [hs, Int.toNat_natCast, made_fill z hzc] at this
  exact this

/-- a new list, where the walk meets it -/
theorem wpList_make_at {w w' : World} {ops : Array Oper} {rest : List Oper} {o : Oper} {a : Act} {Q : Exit → Act → World → Prop} (hg : o.guard = none) (l c : Operand) (t : TypeId) (hop : o.op = Op.makeSlice t l c) (x y v : Value) (hl : a.eval l = x) (hc : a.eval c = y) (hrun : (Instr.makeSlice t x y).run Try.prog w = .ok v w')
    (h : wpList Try.prog ops Q rest (a.put o.dst v) w') : wpList Try.prog ops Q (o :: rest) a w := by
  refine wpList_plain hg fun K hK' => ?_
  subst hl hc
  unfold Oper.wp
  simp [execOp, hop, hrun, Result.andThen]
  exact hK' _ _ h

/-- what is free, by a list -/
def frOf (hl : List Int) (n : Nat) : Int → Bool := fun k => (hl.take n).contains k
theorem frOf_succ (hl : List Int) (n : Nat) (hn : n < hl.length) (k : Int) : frOf hl (n + 1) k = (frOf hl n k || (k == hl.getD n 0)) := by
  unfold frOf
  have e : hl.getD n 0 = hl[n] := by simp [List.getD, hn]
  rw [e, List.take_succ_eq_append_getElem hn, List.contains_eq_any_beq, List.contains_eq_any_beq, List.any_append]
  simp

/-- a list of truth values that may be written -/
def Marks (w : World) (B L : Nat) (fr : Int → Bool) : Prop := ∀ i : Nat, i < L → w.cell? ⟨B, i, none⟩ = some (.bool (fr i)) ∧ w.frozen? ⟨B, i, none⟩ = false
theorem Marks.set {w : World} {B L : Nat} {fr fr' : Int → Bool} (h : Marks w B L fr) {k : Nat} (hfr : ∀ i, fr' i = (fr i || (i == (k : Int)))) : Marks (w.setCell ⟨B, k, none⟩ (.bool true)) B L fr' := by
  intro i hi
  refine ⟨?_, by rw [World.frozen?_setCell]; exact (h i hi).2⟩
  rw [hfr]
  by_cases e : i = k
  · subst e
    rw [World.cell?_setCell_same _ _ _ (h i hi).1]
    simp
  · rw [World.cell?_setCell_other _ _ _ _ (by first | (simp; done) | (simp; omega)), (h i hi).1]
    have : ((i : Int) == (k : Int)) = false := by simp; omega
    rw [this, Bool.or_false]

theorem StAt.keepsB {w w' : World} {s hb t bn bm sz nh L : Nat} {lim given : Int} {N : Tab} {last : Int} {H : Int → Option Int} {S : List Nat} (h : StAt w s hb t bn bm sz nh L lim given N last H) (hk : Keeps S w w') (hS : ∀ i ∈ [s, hb, t, bn, bm], i ∉ S) : StAt w' s hb t bn bm sz nh L lim given N last H :=
  have a1 := hS s (by simp)
  ⟨h.tab.keeps hk (hS t (by simp)) (hS bn (by simp)) (hS bm (by simp)), hk.cell h.c0 a1, hk.cell h.c1 a1, hk.cell h.c2 a1, hk.cell h.c3 a1, hk.cell h.c4 a1, (hk.frozen (p := ⟨s, 2, none⟩) (cell_lt h.c2) a1).trans h.f2, h.held.keeps hk (hS hb (by simp)), h.n1, h.n2, h.n3, h.ok, h.hr, h.g0, h.g1⟩
theorem StAt.lts {w : World} {s hb t bn bm sz nh L : Nat} {lim given : Int} {N : Tab} {last : Int} {H : Int → Option Int} (hst : StAt w s hb t bn bm sz nh L lim given N last H) : ∀ i ∈ [s, hb, t, bn, bm], i < w.heap.size := by
  have l0 : s < w.heap.size := cell_lt (p := ⟨s, 0, none⟩) hst.c0
  have l1 := hst.held.lt
  have l2 := hst.tab.names.lt
  have l3 := hst.tab.nodes.lt
  have l4 : t < w.heap.size := cell_lt (p := ⟨t, 0, none⟩) hst.tab.c0
  simp; omega

set_option maxRecDepth 100000 in
set_option maxHeartbeats 2000000 in
theorem exists_call {w : World} {s hb t bn bm L nh sz b o cap n : Nat} {lim given lb : Int} {V : Int → Option Fun} (h : St w s hb t bn bm L nh sz lim given V lb) {f : Int} {F : Fun} (hf : V f = some F) (hl : List Int) (hn : hl.length < 4611686018427387904) (hnn : n = hl.length) (hc : IntsIn w b o hl) (hall : AllV L hl hl.length) (hlb : lb + 100000 ≤ 4611686018427387904) (hg1 : given + 1 ≤ 4611686018427387904) :
    Calls Try.prog 18 #[.pointer (some ⟨s, 0, none⟩), .int .i64 f, .slice (some ⟨b, o, none⟩) n cap] w fun e w' => Held1 w s hb t bn bm L nh lim given V lb (exB (frOf hl hl.length) F) e w' := by
  have hsz := h.szb
  obtain ⟨N, last, H, hst, k1, k2, k3, k4, k5, k6⟩ := h
  have hmf : ∀ (fn : Fn) (first cap : Array Value) (w : World), (Instr.makeFunc fn first cap).run Try.prog w = .ok (.func fn first cap) w := fun _ _ _ _ => rfl
  obtain ⟨f0, e0, e1⟩ := St.has k2 hf
  have hfit : Fits f := by have := hst.hr f f0 e0; unfold Fits; omega
  have hL8 : L ≤ 8 := by have := hst.tab.wf.tops; omega
  obtain ⟨i4, hi4, hz0, hz1, hz2⟩ := info_parts info4
  have HMK : Hid (∀ w : World, (Instr.makeSlice 47 (.int .i64 (L : Int)) (.int .i64 (L : Int))).run Try.prog w = .ok (.slice (some ⟨w.heap.size, 0, none⟩) L L) (w.alloc (.cells (fillV (.bool false) L) 4))) := make_run Try.underlying47 hi4 hz0 hz1 hz2 (by omega) rfl hL8
  have hk : Keeps [] w (w.alloc (.cells #[.pointer (some ⟨s, 0, none⟩)] 23)) := (Keeps.refl _ _).alloc _
  have hst' := hst.keeps hk
  have d1 : (w.alloc (.cells #[.pointer (some ⟨s, 0, none⟩)] 23)).cell? ⟨w.heap.size, 0, none⟩ = some (.pointer (some ⟨s, 0, none⟩)) := cell_new w _ _ rfl rfl
  have HV : Hid (∀ x, V x = (H x).map (E N)) := k2
  have HF : Hid (H f = some f0) := e0
  have HE : Hid (E N f0 = F) := e1
  have HA : Hid (AllV L hl hl.length) := hall
  have HC : Hid (IntsIn w b o hl) := hc
  have HN : Hid (n = hl.length) := hnn
  have ls : s < w.heap.size := cell_lt (p := ⟨s, 0, none⟩) hst.c0
  clear k2 hf e0 e1 hall hc hi4 hz0 hz1 hz2 hnn
  go_enter Try.func18, Try.ntmps18
  go_wp2_with fail
  refine (findWith_any hst' hfit hl hn HN.out (HC.out.keeps hk (by simp))).mono ?_
  rintro e w1 ⟨hk1, ⟨hno, _⟩ | ⟨f1, hf1, hh⟩⟩
  · rw [HF.out] at hno; cases hno
  · rw [HF.out] at hf1
    cases hf1
    rcases hh with ⟨_, rfl⟩ | ⟨hbad, _⟩
    · have hst1 := hst'.keeps hk1
      have c1 := hk1.cell d1 (by simp)
      have c0 := hst1.c0
      have l1 : w.heap.size < w1.heap.size := cell_lt (p := ⟨w.heap.size, 0, none⟩) c1
      have l0 : s < w1.heap.size := by omega
      go_wp2_with (first
        | (at_make; refine wpList_make_at rfl _ _ 47 rfl (.int .i64 (L : Int)) (.int .i64 (L : Int)) _ rfl rfl (HMK.out _) ?_)
        | fail)
      obtain ⟨Y, hY⟩ : ∃ Y, Y = (((w1.alloc (Obj.cells #[Value.int IntKind.i64 f0] 65)).alloc (Obj.cells (fillV (Value.bool false) L) 4)).alloc (Obj.cells #[Value.slice (some { block := w1.heap.size + 1, off := 0 }) L L] 47)) := ⟨_, rfl⟩
      rw [← hY]
      have hkY : Keeps [] w1 Y := by rw [hY]; exact (((Keeps.refl _ _).alloc _).alloc _).alloc _
      have b1 : Y.cell? ⟨w1.heap.size, 0, none⟩ = some (.int .i64 f0) := by rw [hY]; exact ((((Keeps.refl [] _).alloc _).alloc _).cell (cell_new w1 _ _ rfl rfl) (by simp))
      have b2 : Marks Y (w1.heap.size + 1) L (frOf hl 0) := fun k hk => by
        rw [hY]
        refine ⟨(((Keeps.refl [] _).alloc _).cell (cell_new (w1.alloc _) _ _ (by simp) (fillV_get _ hk)) (by simp)), ?_⟩
        exact (((Keeps.refl [] ((w1.alloc (Obj.cells #[Value.int IntKind.i64 f0] 65)).alloc (Obj.cells (fillV (Value.bool false) L) 4))).alloc _).frozen (p := ⟨w1.heap.size + 1, k, none⟩) (by simp) (by simp)).trans (World.frozen?_alloc_at _ _ _ _ (by simp))
      have b3 : Y.cell? ⟨w1.heap.size + 1 + 1, 0, none⟩ = some (.slice (some ⟨w1.heap.size + 1, 0, none⟩) L L) := by rw [hY]; exact cell_new _ _ _ (by simp) rfl
      have hlY : w1.heap.size + 1 + 1 < Y.heap.size := cell_lt (p := ⟨w1.heap.size + 1 + 1, 0, none⟩) b3
      clear hY
      go_loopw [30] (fun i wr => ∃ j : Nat, j ≤ n ∧ i = .int .i64 j ∧ Marks wr (w1.heap.size + 1) L (frOf hl j) ∧ Keeps [w1.heap.size + 1] Y wr) (fun i _ => n - (intOf i).toNat)
      case atStart => exact ⟨0, by omega, rfl, b2, Keeps.refl _ _⟩
      case round =>
        clear b2
        obtain ⟨j, hj, rfl, hm, hkr⟩ := hrel
        have b3' := hkr.cell b3 (by simp)
        by_cases hlt : j < n
        · have hjl : j < hl.length := by have := HN.out; omega
          have hbw : b < w.heap.size := cell_lt (p := ⟨b, o + j, none⟩) (HC.out j hjl)
          have hcj := hkr.cell (hkY.cell (hk1.cell (hk.cell (HC.out j hjl) (by simp)) (by simp)) (by simp)) (by simp; omega)
          have hx := HA.out j hjl
          obtain ⟨x, hxe⟩ := Int.eq_ofNat_of_zero_le hx.1
          have hxL : x < L := by omega
          have hx0 : (0 : Int) ≤ (x : Int) := by omega
          have hx1 : (x : Int) < (L : Int) := by omega
          have hj0 : (0 : Int) ≤ (j : Int) := by omega
          have hj1 : (j : Int) < (n : Int) := by omega
          have hnn2 : (n : Int) < 4611686018427387904 := by have := HN.out; omega
          rw [hxe] at hcj
          have p1 := (hm x hxL).1
          have p2 := (hm x hxL).2
          have HX : Hid (hl.getD j 0 = (x : Int)) := hxe
          clear hxe hx
          go_wp2_with fail
          go_roundw
          case rel =>
            refine ⟨j + 1, by omega, by go_num, hm.set (fun i => ?_), hkr.setCell _ (Or.inl (by simp)) _⟩
            rw [frOf_succ hl j hjl, HX.out]
          case measure => simp [intOf]; omega
        · have e : j = n := by omega
          subst e
          have c1' := hkr.cell (hkY.cell c1 (by simp)) (by simp; omega)
          have c2' := hkr.cell b1 (by simp)
          have hst3 := (hst1.keeps hkY).keepsB hkr (fun x hx => by have := hst1.lts x hx; simp; omega)
          have hkw : Keeps [] w wr := (((hk.trans (hk1.trans hkY)).mono (by simp)).trans hkr).strike (by simp; omega)
          have hvS : w1.heap.size + 1 ∉ [t, bn, bm] := fun hin => by have := hst1.lts (w1.heap.size + 1) (by simp at hin ⊢; omega); omega
          have hvl : w1.heap.size + 1 < wr.heap.size := by have := hkr.size; omega
          have htr : Truths wr (w1.heap.size + 1) 0 L (frOf hl hl.length) := fun k hk => by rw [Nat.zero_add, ← HN.out]; exact (hm k hk).1
          go_wp2_with fail
          refine (hold_Exists hst3 k1 HV.out k3 k4 k5 k6 hg1 _ _ _ (exi1_any (c1 := w.heap.size) (c2 := w1.heap.size) (c3 := w1.heap.size + 1 + 1) (f := f0) (vb := w1.heap.size + 1) (vo := 0) (cap := L) (fr := frOf hl hl.length) (hst3.keeps ((Keeps.refl _ _).drew)) (hst.ok f f0 HF.out) (fun k hk => htr k hk) hvS hvl (by omega) hsz c1' c2' b3')).mono ?_
          intro e w' hh
          rw [HE.out] at hh
          have hh' := hh.from hkw
          obtain ⟨x, y, rfl⟩ := hh.ends
          clear hh
          go_wp2_with fail
          go_ret2
          exact hh'
    · exact absurd HA.out hbad

end Go.Proofs.Ytpadcllamejioaa
