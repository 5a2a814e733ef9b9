/- The call Least. -/
import Derived.Test.YtmgjegokkbghlaaGreatLeast
import Derived.Test.YtmgjegokkbghlaaGreatForms
import Derived.Laws.BitsLemmas
namespace Go.Proofs.YtmgjegokkbghlaaGreat
open Go.RowKit Go.Maps Bdd
attribute [local go_sem ↓] Go.wp_at_zero Go.wp_at_succ

/-- an assignment's number -/
def bin (a : Int → Bool) : Nat → Nat
  | 0 => 0
  | k + 1 => 2 * bin a k + (a (k : Int)).toNat
def wtL (L i : Nat) : Nat := 2 ^ (L - 1 - i)
theorem wsum_bin (a : Int → Bool) (L : Nat) : ∀ k, k ≤ L → wsum (wtL L) a k = 2 ^ (L - k) * bin a k
  | 0, _ => by simp [wsum, bin]
  | k + 1, h => by
    have e : L - k = L - (k + 1) + 1 := by omega
    have e2 : L - 1 - k = L - (k + 1) := by omega
    simp only [wsum, bin, wsum_bin a L k (by omega), wtL, e2]
    rw [e, Nat.pow_succ]
    generalize 2 ^ (L - (k + 1)) = p
    have e3 : p * 2 * bin a k = p * (2 * bin a k) := Nat.mul_assoc _ _ _
    rw [e3, Nat.mul_add]
    cases a (k : Int) <;> simp
theorem numL (a : Int → Bool) (L : Nat) : wsum (wtL L) a L = bin a L := by
  rw [wsum_bin a L L (Nat.le_refl _)]; simp
theorem bin_lt (a : Int → Bool) : ∀ k, bin a k < 2 ^ k
  | 0 => by simp [bin]
  | k + 1 => by
    have := bin_lt a k
    simp only [bin, Nat.pow_succ]
    cases a (k : Int) <;> simp <;> omega
theorem bin_bit (a : Int → Bool) : ∀ k i : Nat, i < k → (bin a k).testBit (k - 1 - i) = a i
  | 0, i, h => by omega
  | k + 1, i, h => by
    by_cases e : i = k
    · subst e
      simp only [bin, Nat.add_sub_cancel, Nat.sub_self, Nat.testBit_zero]
      cases a (i : Int) <;> simp <;> omega
    · have e2 : k + 1 - 1 - i = (k - 1 - i) + 1 := by omega
      rw [e2, Nat.testBit_succ]
      have e3 : bin a (k + 1) / 2 = bin a k := by
        simp only [bin]
        cases a (k : Int) <;> simp <;> omega
      rw [e3]
      exact bin_bit a k i (by omega)
theorem wtL_ok {L : Nat} (hL : L ≤ 8) : WtOk (wtL L) L := by
  refine ⟨fun i _ => Nat.one_le_two_pow, fun a => ?_⟩
  rw [numL]
  have h1 := bin_lt a L
  have h2 : 2 ^ L ≤ 2 ^ 8 := Nat.pow_le_pow_right (by omega) hL
  omega

theorem and_bit {x e : Nat} (hx : x < 256) (he : e < 8) : (bits BinOp.and IntKind.i64 (x : Int) ((2 ^ e : Nat) : Int) != 0) = x.testBit e := by
  have h2 : 2 ^ e < 2 ^ 8 := Nat.pow_lt_pow_right (by omega) he
  have h := (bits_nat .i64 8 (by decide) (fun n h0 h1 => IntWalk.i64_in _ ⟨by omega, by omega⟩) x (2 ^ e) (by omega) h2).1
  rw [h]
  cases hb : x.testBit e with
  | false =>
    have h0 : x &&& 2 ^ e = 0 := by
      refine Nat.eq_of_testBit_eq (fun i => ?_)
      rw [Nat.testBit_and, Nat.zero_testBit]
      by_cases ei : e = i
      · subst ei; rw [hb]; rfl
      · rw [Nat.testBit_two_pow_of_ne ei]; simp
    rw [h0]; rfl
  | true =>
    have h0 : x &&& 2 ^ e ≠ 0 := fun h0 => by
      have h1 : (x &&& 2 ^ e).testBit e = true := by rw [Nat.testBit_and, hb, Nat.testBit_two_pow_self]; rfl
      rw [h0, Nat.zero_testBit] at h1
      cases h1
    simp only [bne_iff_ne, ne_eq]
    omega

/-- the weights by levels -/
def wtP {L : Nat} (od : Ord L) (k : Nat) : Nat := wtL L (od.at_ (k : Int)).toNat
theorem wtP_ok {L : Nat} (od : Ord L) (hL : L ≤ 8) : WtOk (wtP od) L := by
  refine ⟨fun i _ => Nat.one_le_two_pow, fun a => ?_⟩
  show wsum (fun k => wtL L (od.at_ (k : Int)).toNat) a L ≤ 255
  rw [wsum_perm od (wtL L) a]
  exact (wtL_ok hL).2 _
theorem least_conv {L : Nat} (od : Ord L) {N : Tab} {last f0 : Int} (hw : Wf N (L : Int) last) (hf : Ok N 0 f0) {x : Nat} (h : LeastIs (wtP od) L (E N f0) x) : ∃ a, FV N od f0 a = true ∧ bin a L = x ∧ ∀ b, FV N od f0 b = true → x ≤ bin b L := by
  obtain ⟨⟨a, ha, hax⟩, hmin⟩ := h
  refine ⟨fun u => a (od.lv u), by rw [FV_back hw hf]; exact ha, ?_, fun b hb => ?_⟩
  · rw [← numL, ← hax]
    exact (wsum_perm od (wtL L) a).symm
  · have h1 := hmin (fun k => b (od.at_ k)) hb
    have h2 : wsum (wtP od) (fun k => b (od.at_ k)) L = wsum (wtL L) (fun u => b (od.at_ (od.lv u))) L := wsum_perm od (wtL L) (fun k => b (od.at_ k))
    rw [h2, wsum_same (wtL L) (b := b) L (fun i hi => by rw [(od.r2 i (by omega) (by omega)).2.2]), numL] at h1
    exact h1

/-- a block of so many cells of that type -/
def Blk (w : World) (g : Nat) (e : TypeId) (L : Nat) : Prop := ∃ cur : Array Value, w.heap[g]? = some (.cells cur e (0, 0)) ∧ cur.size = L
theorem Blk.set {w : World} {g L y : Nat} {e : TypeId} (h : Blk w g e L) (u : Value) : Blk (w.setCell ⟨g, y, none⟩ u) g e L := by
  obtain ⟨cur, h1, h2⟩ := h
  exact ⟨cur.setIfInBounds y u, heap_setCell_same w g y cur e u h1, by simpa using h2⟩

set_option maxRecDepth 100000 in
set_option maxHeartbeats 2000000 in
theorem least_call {w : World} {s hb t bn bm L nh sz : Nat} {od : Ord L} {lim given lb : Int} {V : Int → Option Fun} (h : St w s hb t bn bm od nh sz lim given V lb) {f : Int} {F : Fun} (hf : V f = some F) :
    Calls Tryz.prog 59 #[.pointer (some ⟨s, 0, none⟩), .int .i64 f] w fun e w' => Keeps [] w w' ∧
      (((∀ a, F a = false) ∧ e = .returned (.tuple #[.slice none 0 0, .int .i64 0])) ∨
       (∃ a g, F a = true ∧ (∀ b, F b = true → bin a L ≤ bin b L) ∧ w.heap.size ≤ g ∧ e = .returned (.tuple #[.slice (some ⟨g, 0, none⟩) L L, .int .i64 0]) ∧ (∀ i : Nat, i < L → w'.cell? ⟨g, i, none⟩ = some (.bool (a i))) ∧ Blk w' g 4 L)) := by
  obtain ⟨N, last, H, hst, k1, k2, k3, k4, k5, k6⟩ := h
  obtain ⟨f0, e0, e1⟩ := St.has k2 hf
  have hfit : Fits f := by have := hst.hr f f0 e0; unfold Fits; omega
  have hL8 : L ≤ 8 := by have := hst.tab.wf.tops; omega
  obtain ⟨i4, hi4, hz0, hz1, hz2⟩ := info_parts info4
  obtain ⟨i3, hi3, y0, y1, y2⟩ := info_parts info3
  have HMB : Hid (∀ w : World, (Instr.makeSlice 32 (.int .i64 (L : Int)) (.int .i64 (L : Int))).run Tryz.prog w = .ok (.slice (some ⟨w.heap.size, 0, none⟩) L L) (w.alloc (.cells (fillV (.bool false) L) 4))) := make_run Tryz.underlying32 hi4 hz0 hz1 hz2 (by omega) rfl hL8
  have HMI : Hid (∀ w : World, (Instr.makeSlice 31 (.int .i64 (L : Int)) (.int .i64 (L : Int))).run Tryz.prog w = .ok (.slice (some ⟨w.heap.size, 0, none⟩) L L) (w.alloc (.cells (fillV (.int .i64 0) L) 3))) := make_run Tryz.underlying31 hi3 y0 y1 y2 (by omega) rfl hL8
  have hk : Keeps [] w (w.alloc (.cells #[.int .i64 f] 3)) := (Keeps.refl _ _).alloc _
  have hst' := hst.keeps hk
  have HF : Hid (H f = some f0) := e0
  have HE : Hid (FV N od f0 = F) := e1
  have ls : s < w.heap.size := cell_lt (p := ⟨s, 0, none⟩) hst.c0
  clear k2 hf e0 e1 hi4 hz0 hz1 hz2 hi3 y0 y1 y2
  go_enter Tryz.func59, Tryz.ntmps59
  go_wp2_with fail
  refine (find_any (b := w.heap.size) hst' [f] (by simp) (fun j hj => by simp at hj; subst hj; simpa using hfit) (fun j hj => by simp at hj; subst hj; simp) (by simp)).mono ?_
  rintro e w1 (⟨⟨j, hj, hn⟩, _⟩ | ⟨_, g, cap, rfl, hg, hcell, hk1⟩)
  · simp at hj
    subst hj
    simp [HF.out] at hn
  · have hc0 := hcell 0 (by simp)
    simp [HF.out] at hc0
    have hst1 := hst'.keeps hk1
    have hkw := hk.trans hk1
    have lg : g < w1.heap.size := cell_lt (p := ⟨g, 0, none⟩) hc0
    have c0 := hst1.c2
    have l0 : s < w1.heap.size := cell_lt (p := ⟨s, 2, none⟩) c0
    simp only [List.length_cons, List.length_nil, Nat.zero_add]
    go_wp2_with (first
      | (at_make; refine wpList_make_at rfl _ _ 31 rfl (.int .i64 (L : Int)) (.int .i64 (L : Int)) _ rfl rfl (HMI.out _) ?_)
      | fail)
    obtain ⟨Y, hY⟩ : ∃ Y, Y = w1.alloc (Obj.cells (fillV (Value.int .i64 0) L) 3) := ⟨_, rfl⟩
    rw [← hY]
    have hkY : Keeps [] w1 Y := by rw [hY]; exact (Keeps.refl _ _).alloc _
    have b2 : Nums Y w1.heap.size L (fun i => if i < 0 then (wtP od i : Int) else 0) := fun k hk => by
      rw [hY]
      exact ⟨cell_new w1 _ _ rfl (fillV_get _ hk), World.frozen?_alloc_at _ _ _ _ rfl⟩
    have hlY : w1.heap.size < Y.heap.size := by rw [hY]; simp
    clear hY
    go_loopw [37] (fun i wr => ∃ j : Nat, j ≤ L ∧ i = .int .i64 j ∧ Nums wr w1.heap.size L (fun i => if i < j then (wtP od i : Int) else 0) ∧ Keeps [w1.heap.size] Y wr) (fun i _ => L - (intOf i).toNat)
    case atStart => exact ⟨0, by omega, rfl, b2, Keeps.refl _ _⟩
    case round =>
      clear b2
      obtain ⟨j, hj, rfl, hm, hkr⟩ := hrel
      have c0' := hkr.cell (hkY.cell c0 (by simp)) (by simp; omega)
      by_cases hlt : j < L
      · have hj0 : (0 : Int) ≤ (j : Int) := by omega
        have hj1 : (j : Int) < (L : Int) := by omega
        have p1 := (hm j hlt).1
        have p2 := (hm j hlt).2
        have hstr := (hst1.keeps hkY).keepsB hkr (fun x hx => by have := hst1.lts x hx; simp; omega)
        have p3 := (hstr.ord j hlt).1
        obtain ⟨x0, x1, _⟩ := od.r1 j hj0 hj1
        obtain ⟨x, hx⟩ := Int.eq_ofNat_of_zero_le x0
        rw [hx] at p3 x0 x1
        have HX : Hid (od.at_ (j : Int) = (x : Int)) := hx
        clear hx
        go_wp2_with fail
        go_roundw
        case rel =>
          refine ⟨j + 1, by omega, by go_num, hm.set _ ?_ (fun i hi => ?_), hkr.setCell _ (Or.inl (by simp)) _⟩
          · rw [if_pos (by omega)]
            unfold wtP
            rw [HX.out, Int.toNat_natCast]
            unfold wtL
            have h2 : 2 ^ (L - 1 - x) ≤ 2 ^ 8 := Nat.pow_le_pow_right (by omega) (by omega)
            have e : ((2 : Int) ^ (L - 1 - x)) = ((2 ^ (L - 1 - x) : Nat) : Int) := by simp
            rw [e]
            generalize 2 ^ (L - 1 - x) = p at h2
            exact (IntWalk.wrap64_in _ ⟨by omega, by omega⟩).symm
          · by_cases hij : i < j
            · rw [if_pos hij, if_pos (by omega)]
            · rw [if_neg hij, if_neg (by omega)]
        case measure => simp [intOf]; omega
      · have e : j = L := by omega
        subst e
        have hw : Wts wr w1.heap.size 0 j (wtP od) := fun i hi => by have := (hm i hi).1; simp only [hi, if_true] at this; rw [Nat.zero_add]; exact this
        have hst3 := (hst1.keeps hkY).keepsB hkr (fun x hx => by have := hst1.lts x hx; simp; omega)
        have c4 := hst3.c4
        have hc0' := hkr.cell (hkY.cell hc0 (by simp)) (by simp; omega)
        have hkW : Keeps [] w wr := (((hkw.trans hkY).mono (by simp)).trans hkr).strike (by simp; have := hkw.size; omega)
        have hvl : w1.heap.size < wr.heap.size := by have := hkr.size; omega
        have hTd := (hst3.keeps ((Keeps.refl [] wr).drew)).tab
        have hk0 : Keeps [] wr wr.drew := (Keeps.refl _ _).drew
        have hof := hst.ok f f0 HF.out
        have hj0 : (0 : Int) < ((1 : Nat) : Int) := by omega
        clear hm
        go_wp2_with fail
        go_region_held3 (fun w' => w'.cell? ⟨s, 4, none⟩ = some (.pointer (some ⟨t, 0, none⟩)) ∧ w'.cell? ⟨g, 0, none⟩ = some (.int .i64 f0) ∧ Keeps [] wr w')
          (first | exact ⟨c4, hc0', hk0⟩ | exact ⟨hk2.cell c4 (by simp), hk2.cell hc0' (by simp), hk0.trans hk2⟩ | assumption)
          (first
            | (go_at_call 104; refine (tleast_any (wtP_ok od hL8) hTd hof (fun i hi => hw i hi) hvl).mono ?_; rintro e w2 ⟨hk2, hor⟩; obtain ⟨x, ok, hx, hrest⟩ : ∃ (x : Nat) (ok : Bool), e = .returned (.tuple #[.int .i64 (x : Int), .bool ok]) ∧ ((f0 = 0 ∧ ok = false) ∨ (ok = true ∧ LeastIs (wtP od) j (E N f0) x)) := (by rcases hor with ⟨h1, h2⟩ | ⟨h1, x, h2, h3⟩; exact ⟨0, false, h2, Or.inl ⟨h1, rfl⟩⟩; exact ⟨x, true, h3, Or.inr ⟨rfl, h2⟩⟩); subst hx))
        have s2 := (by assumption : w2.cell? ⟨s, 4, none⟩ = some (.pointer (some ⟨t, 0, none⟩)) ∧ w2.cell? ⟨g, 0, none⟩ = some (.int .i64 f0) ∧ Keeps [] wr w2).2.2
        rcases hrest with ⟨hz, rfl⟩ | ⟨rfl, hx⟩
        · go_wp2_with fail
          go_ret2
          refine ⟨hkW.trans s2, Or.inl ⟨fun a => ?_, rfl⟩⟩
          rw [← HE.out, hz]
          exact E_zero hst.tab.wf _
        · have d0 := s2.cell hst3.c2 (by simp)
          have hl2 : s < w2.heap.size := cell_lt (p := ⟨s, 2, none⟩) d0
          have hwv : w1.heap.size < w2.heap.size := by have := s2.size; omega
          have hw2 : Wts w2 w1.heap.size 0 j (wtP od) := fun i hi => s2.cell (hw i hi) (by simp)
          clear hw
          go_wp2_with (first
            | (at_make; refine wpList_make_at rfl _ _ 32 rfl (.int .i64 (j : Int)) (.int .i64 (j : Int)) _ rfl rfl (HMB.out _) ?_)
            | fail)
          obtain ⟨Z, hZ⟩ : ∃ Z, Z = w2.alloc (Obj.cells (fillV (Value.bool false) j) 4) := ⟨_, rfl⟩
          rw [← hZ]
          have hkZ : Keeps [] w2 Z := by rw [hZ]; exact (Keeps.refl _ _).alloc _
          obtain ⟨a, ha, hax, hmin⟩ := least_conv od hst.tab.wf hof hx
          have z2 : Bools Z w2.heap.size j (fun i => if (od.lv (i : Int)).toNat < 0 then a i else false) := fun k hk => by
            rw [hZ]
            exact ⟨cell_new w2 _ _ rfl (fillV_get _ hk), World.frozen?_alloc_at _ _ _ _ rfl⟩
          have hlZ : w2.heap.size < Z.heap.size := by rw [hZ]; simp
          have HZB : Hid (Blk Z w2.heap.size 4 j) := by
            show Blk Z w2.heap.size 4 j
            rw [hZ]
            exact ⟨_, heap_alloc_new w2 _, by simp [fillV]⟩
          have HAX : Hid (bin a j = x) := hax
          have HA : Hid (FV N od f0 a = true) := ha
          have HMin : Hid (∀ b, FV N od f0 b = true → x ≤ bin b j) := hmin
          have hx8 : x < 256 := by
            have h1 := bin_lt a j
            have h2 : 2 ^ j ≤ 2 ^ 8 := Nat.pow_le_pow_right (by omega) (by omega)
            omega
          clear hZ hax ha hmin
          go_loopw [80] (fun i wr => ∃ q : Nat, q ≤ j ∧ i = .int .i64 q ∧ Bools wr w2.heap.size j (fun i => if (od.lv (i : Int)).toNat < q then a i else false) ∧ Hid (Blk wr w2.heap.size 4 j) ∧ Keeps [w2.heap.size] Z wr) (fun i _ => j - (intOf i).toNat)
          case atStart => exact ⟨0, by omega, rfl, z2, HZB, Keeps.refl _ _⟩
          case round =>
            clear z2 HZB
            obtain ⟨q, hq, rfl, hm, hbk, hkr2⟩ := hrel
            by_cases hlt : q < j
            · have hq0 : (0 : Int) ≤ (q : Int) := by omega
              have hq1 : (q : Int) < (j : Int) := by omega
              obtain ⟨y0, y1, y2⟩ := od.r1 q hq0 hq1
              obtain ⟨y, hy⟩ := Int.eq_ofNat_of_zero_le y0
              have hyj : y < j := by omega
              have p1 := (hm y hyj).1
              have p2 := (hm y hyj).2
              have hst4 := hst3.keeps s2
              have p3 := hkr2.cell (hkZ.cell (hst4.ord q hlt).1 (by simp)) (by have := hst4.lts od.blk (by simp); simp; omega)
              have pw := hkr2.cell (hkZ.cell (hw2 q hlt) (by simp)) (by simp; omega)
              rw [Nat.zero_add] at pw
              have HB : Hid ((bits BinOp.and IntKind.i64 (x : Int) (wtP od q : Int) != 0) = a y) := by
                show _ = _
                unfold wtP
                rw [hy, Int.toNat_natCast]
                unfold wtL
                rw [and_bit hx8 (by omega), ← HAX.out]
                exact bin_bit a j y hyj
              rw [hy] at p3 y0 y1 y2
              have HY : Hid (od.lv (y : Int) = (q : Int)) := y2
              clear hy y2
              go_wp2_with fail
              go_roundw
              case rel =>
                refine ⟨q + 1, by omega, by go_num, hm.set _ ?_ (fun i hin hi => ?_), hbk.out.set _, hkr2.setCell _ (Or.inl (by simp)) _⟩
                · rw [if_pos (by rw [HY.out]; omega), HB.out]
                · have h1 := od.r2 i (by omega) (by omega)
                  have h2 : od.lv (i : Int) ≠ (q : Int) := fun e => by
                    have h3 := (od.r2 y (by omega) (by omega)).2.2
                    rw [HY.out, ← e, h1.2.2] at h3
                    exact hi (by omega)
                  by_cases hiq : (od.lv (i : Int)).toNat < q
                  · rw [if_pos hiq, if_pos (by omega)]
                  · rw [if_neg hiq, if_neg (by omega)]
              case measure => simp [intOf]; omega
            · have e : q = j := by omega
              subst e
              go_wp2_with fail
              go_ret2
              have hkz : Keeps [] w2 wr := ((hkZ.mono (by simp)).trans hkr2).strike (by simp)
              refine ⟨(hkW.trans s2).trans hkz, Or.inr ⟨a, w2.heap.size, by rw [← HE.out]; exact HA.out, fun b hb => ?_, ((hkW.trans s2)).size, rfl, fun i hi => ?_, hbk.out⟩⟩
              · rw [HAX.out]
                exact HMin.out b (by rw [HE.out]; exact hb)
              · have := (hm i hi).1
                have h1 := od.r2 i (by omega) (by omega)
                have hlq : (od.lv (i : Int)).toNat < q := by omega
                simp only [hlq, if_true] at this
                exact this

end Go.Proofs.YtmgjegokkbghlaaGreat
