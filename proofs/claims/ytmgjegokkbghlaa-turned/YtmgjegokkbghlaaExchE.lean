/- The walk of Exchange. -/
import Derived.Test.YtmgjegokkbghlaaExchAll
import Derived.WalkMore
import Derived.Deep.LoopGhost
import Derived.Maps.AppendAt
namespace Go.Proofs.Ytmgjegokkbghlaa
open Go.RowKit Go.Maps Bdd
attribute [local go_sem ↓] Go.wp_at_zero Go.wp_at_succ

def upB (N : Tab) (l : Int) (f : Int) : Bool := true && atB N l f
def loB (N : Tab) (l : Int) (f : Int) : Bool := (true && !atB N l f) && atB N (l + 1) f
theorem upB_some {N : Tab} {l f : Int} {n : Nd} : keep N (upB N l) f = some n ↔ N f = some n ∧ n.lv = l := by
  rw [keep_some]
  constructor
  · rintro ⟨h1, h2⟩
    simp [upB, atB, h2] at h1
    exact ⟨h2, h1⟩
  · rintro ⟨h1, h2⟩
    exact ⟨by simp [upB, atB, h1, h2], h1⟩
theorem loB_some {N : Tab} {l f : Int} {n : Nd} : keep N (loB N l) f = some n ↔ N f = some n ∧ n.lv = l + 1 := by
  rw [keep_some]
  constructor
  · rintro ⟨h1, h2⟩
    simp [loB, atB, h2] at h1
    exact ⟨h2, h1.2⟩
  · rintro ⟨h1, h2⟩
    refine ⟨?_, h1⟩
    simp [loB, atB, h1, h2]
    omega

theorem ownsRow_keepsB {w w' : World} {base : Nat} {e : TypeId} {size n : Nat} {v : Value} {xs : List Value} {S : List Nat} (h : w.ownsRow base e size v n xs) (hk : Keeps S w w') (hS : ∀ g, v.ownBlock = some g → g ∉ S) : w'.ownsRow base e size v n xs := by
  refine ⟨h.1, ?_⟩
  rcases h.2 with h0 | ⟨g, cap, cur, rfl, hb, hg, r⟩
  · exact Or.inl h0
  · refine Or.inr ⟨g, cap, cur, rfl, hb, ?_, r⟩
    rw [hk.block g (Array.getElem?_eq_some_iff.1 hg).1 (hS g rfl)]
    exact hg
theorem idx2_0 (a b : Int) (w : World) : (Instr.index 128 (.agg #[.int .i64 a, .int .i64 b]) (.int .i64 0)).run Try.prog w = .ok (.int .i64 a) w := by kernel_rfl
theorem idx2_1 (a b : Int) (w : World) : (Instr.index 128 (.agg #[.int .i64 a, .int .i64 b]) (.int .i64 1)).run Try.prog w = .ok (.int .i64 b) w := by kernel_rfl
/-- which cross -/
structure CrIs (N : Tab) (l : Int) (left : Value → Bool) (cs : List Int) : Prop where
  is : ∀ f ∈ cs, ∃ n, N f = some n ∧ n.lv = l ∧ Cr N l n
  all : ∀ f n, N f = some n → n.lv = l → Cr N l n → left (.int .i64 f) = false → f ∈ cs
  dist : cs.Nodup
  gone : ∀ f ∈ cs, left (.int .i64 f) = false
theorem strike_iff (left : Value → Bool) (f g : Int) : strike left (.int .i64 f) (.int .i64 g) = false ↔ left (.int .i64 g) = false ∨ g = f := by
  by_cases e : g = f
  · subst e; simp [strike_same]
  · rw [strike_other _ (by simp [e])]; simp [e]
theorem CrIs.add {N : Tab} {l : Int} {left : Value → Bool} {cs : List Int} (h : CrIs N l left cs) {f : Int} {n : Nd} (hn : N f = some n) (hl : n.lv = l) (hc : Cr N l n) (hf : left (.int .i64 f) = true) : CrIs N l (strike left (.int .i64 f)) (cs ++ [f]) := by
  refine ⟨fun g hg => ?_, fun g m hg h1 h2 h3 => ?_, ?_, fun g hg => ?_⟩
  · rcases List.mem_append.1 hg with hg | hg
    · exact h.is g hg
    · simp at hg; subst hg; exact ⟨n, hn, hl, hc⟩
  · rcases (strike_iff left f g).1 h3 with h3 | h3
    · exact List.mem_append_left _ (h.all g m hg h1 h2 h3)
    · subst h3; simp
  · refine List.nodup_append.2 ⟨h.dist, by simp, fun a ha b hb e => ?_⟩
    simp at hb
    subst hb
    subst e
    have := h.gone a ha
    rw [hf] at this
    cases this
  · refine (strike_iff left f g).2 ?_
    rcases List.mem_append.1 hg with hg | hg
    · exact Or.inl (h.gone g hg)
    · simp at hg; exact Or.inr hg
theorem CrIs.skip {N : Tab} {l : Int} {left : Value → Bool} {cs : List Int} (h : CrIs N l left cs) {f : Int} {n : Nd} (hn : N f = some n) (hc : ¬ Cr N l n) : CrIs N l (strike left (.int .i64 f)) cs := by
  refine ⟨h.is, fun g m hg h1 h2 h3 => ?_, h.dist, fun g hg => (strike_iff left f g).2 (Or.inl (h.gone g hg))⟩
  rcases (strike_iff left f g).1 h3 with h3 | h3
  · exact h.all g m hg h1 h2 h3
  · subst h3; rw [hn] at hg; cases hg; exact absurd h2 hc

set_option maxRecDepth 100000 in
set_option maxHeartbeats 4000000 in
theorem exchange_any {w : World} {t bn bm sz : Nat} {N : Tab} {top last l : Int} (hT : TabAt w t bn bm sz N top last) (hl0 : 0 ≤ l) (hl1 : l + 1 < top) (hsz : sz ≤ 20000) (hlast : last + 50000 ≤ 4611686018427387904) :
    Calls Try.prog 83 #[.pointer (some ⟨t, 0, none⟩), .int .i64 l] w fun e w' => ∃ A lastc sz', e = .returned (.tuple #[]) ∧ TabAt w' t bn bm sz' A top lastc ∧ ExS N A l last lastc (fun _ => True) (fun _ => True) (AtLv N l) ∧ lastc ≤ last + 50000 ∧ Keeps [t, bn, bm] w w' := by
  have hw := hT.wf
  have hbig := hT.big
  have htop := hw.tops
  have hl8 : l + 1 < 8 := by omega
  have hml : (1000000 : Nat) < maxLen := by decide
  have e0 : keep N (fun _ => true) = N := by funext f; simp [keep]
  have hn0 : MapIs w Try.prog 115 bn sz (namesG (keep N (fun _ => true))) := by rw [e0]; exact hT.names
  have htn : t ≠ bn := hT.names.ne_cell hT.c0
  have htm : t ≠ bm := hT.nodes.ne_cell hT.c0
  have ltt : t < w.heap.size := cell_lt hT.c0
  have ltn := hT.names.lt
  have ltm := hT.nodes.lt
  have hbb := hT.ne
  have HFN : Hid (∀ f n, N f = some n → Fits f ∧ Fits n.lv ∧ Fits n.lo ∧ Fits n.hi) := hw.fitsN hbig
  clear e0
  go_enter Try.func83, Try.ntmps83
  go_wp2_with fail
  go_step3
  go_wp2_with fail
  refine (take_any hw hbig hT.c0 hn0 (by omega)).mono ?_
  rintro e w1 ⟨ub, un, m1, rfl, hub, hum, hun, hnm1, hm1, hk1⟩
  go_wp2_with fail
  refine (take_any (S0 := fun f => true && !atB N l f) (l := l + 1) hw hbig (hk1.cell hT.c0 (by simp; exact htn)) hnm1 (by omega)).mono ?_
  rintro e w2 ⟨lb, ln, m2, rfl, hlb, hlm, hln, hnm2, hm2, hk2⟩
  have hk12 := hk1.trans hk2
  have hX2 : TabX w2 t bn bm m2 sz (keep N (midB N l)) N last := ⟨hk12.cell hT.c0 (by simp; exact htn), hk12.cell hT.c1 (by simp; exact htn), hk12.cell hT.c2 (by simp; exact htn), (hk12.frozen (p := ⟨t, 2, none⟩) ltt (by simp; exact htn)).trans hT.f2, hnm2, (hT.nodes.keeps hk12 (by simp; exact fun e => hbb e.symm)).congr (fun v _ _ => by rw [ov_start]), hbb, (ExS.start (l := l) hw).uniq, hbig, hw.one⟩
  have lub := hum.lt
  have hs1 := hk1.size
  have hum2 : MapIs w2 Try.prog 69 ub un (nodesG (keep N (upB N l))) := hum.keeps hk2 (by simp; omega)
  have hlm2 : MapIs w2 Try.prog 69 lb ln (nodesG (keep N (loB N l))) := hlm
  have llb := hlm.lt
  have HX2 : Hid (TabX w2 t bn bm m2 sz (keep N (midB N l)) N last) := hX2
  clear hX2 hnm1 hnm2 hum hlm hn0
  go_wp2_with (first
    | (at_range; refine wpList_rangeIs _ rfl _ 110 rfl 69 115 lawFn Try.underlying110 lb ln (nodesG (keep N (loB N l))) rfl hlm2 ?_; intro w0 hrg0 hg0 hs0)
    | fail)
  go_frame
  obtain ⟨lf, hlf⟩ : ∃ lf : Value → Bool, lf = fun x => (nodesG (keep N (loB N l)) x).isSome := ⟨_, rfl⟩
  rw [← hlf] at hrg0
  have HLF : Hid (∀ f n, N f = some n → n.lv = l + 1 → lf (.int .i64 f) = true) := fun f n hn h1 => by rw [hlf]; simp [nodesG, loB_some.2 ⟨hn, h1⟩]
  clear hlf
  have hk02 : Keeps [bn, bm, w2.heap.size] w2 w0 := (Keeps.refl _ _).grown hg0 (by simp)
  have lts2 : t < w2.heap.size ∧ bn < w2.heap.size ∧ bm < w2.heap.size := by have := hk12.size; omega
  have HST : Hid (∀ (left : Value → Bool), (∀ f n, N f = some n → n.lv = l + 1 → left (.int .i64 f) = true) → ExS N (keep N (midB N l)) l last last (fun f => left (.int .i64 f) = false) (fun _ => False) (fun _ => False)) := by
    intro left hl
    refine (ExS.start (l := l) hw).congr (fun f n hn h1 => ?_) (fun _ _ _ _ _ => Iff.rfl) (fun _ _ _ _ _ => Iff.rfl)
    rw [hl f n hn h1]
    simp
  go_loopw [6, 7] (fun _ _ wr => ∃ (left : Value → Bool) (cnt : Nat) (A : Tab) (n1 : Nat), RangeIs wr Try.prog 69 lb w2.heap.size ln (nodesG (keep N (loB N l))) left cnt ∧ TabX wr t bn bm n1 sz A N last ∧ Hid (ExS N A l last last (fun f => left (.int .i64 f) = false) (fun _ => False) (fun _ => False)) ∧ n1 + cnt ≤ 2 * sz ∧ Keeps [bn, bm, w2.heap.size] w2 wr)
    (fun _ _ wr => wr.rangeLeft lb w2.heap.size)
  case atStart =>
    refine ⟨_, ln, _, m2, hrg0, HX2.out.keeps (S := [w2.heap.size]) ((Keeps.refl _ _).grown hg0 (by simp)) (by simp; omega) (by simp; omega) (by simp; omega), HST.out lf HLF.out, by omega, hk02⟩
  case round =>
    obtain ⟨left, cnt, A, n1, hrg, hX, hE, hcn, hkr⟩ := hrel
    clear hrg0
    have HLE : Hid (wr.rangeLeft lb w2.heap.size = cnt) := hrg.left_eq
    go_wp2_with (first
      | (at_next; refine wpList_nextIs _ rfl _ rfl 69 .i64 lawFn Try.underlying69 nodeV lb w2.heap.size ln _ left cnt ?_ rfl hrg ?_ ?_)
      | fail)
    · intro x v hv
      obtain ⟨f, n, _, _, e⟩ := nodesG_back hv
      exact ⟨n, e⟩
    · intro hc0 hleft
      obtain ⟨wA, rfl⟩ : ∃ wA, wA = wr := ⟨wr, rfl⟩
      have hE1 : ExS N A l last last (fun _ => True) (fun _ => False) (fun _ => False) := hE.out.congr (fun f n hn h1 => by
        have := hleft f (HFN.out f n hn).1.wf
        simp [this]) (fun _ _ _ _ _ => Iff.rfl) (fun _ _ _ _ _ => Iff.rfl)
      have hu3 := hum2.keeps hkr (by simp; omega)
      have HE1 : Hid (ExS N A l last last (fun _ => True) (fun _ => False) (fun _ => False)) := hE1
      clear hE1 hE hrg HLE hleft HST HLF hum2 hlm2 HX2
      have hsr := hkr.size
      obtain ⟨i0, hi, hz0, hz1, hz2⟩ := info_parts info69
      go_wp2_with fail
      go_step3
      go_wp2_with (first
        | (at_range; refine wpList_rangeIs _ rfl _ 110 rfl 69 115 lawFn Try.underlying110 ub un (nodesG (keep N (upB N l))) rfl hu3 ?_; intro y0 hry0 hgy0 hsy0)
        | fail)
      go_frame
      obtain ⟨uf, huf⟩ : ∃ uf : Value → Bool, uf = fun x => (nodesG (keep N (upB N l)) x).isSome := ⟨_, rfl⟩
      rw [← huf] at hry0
      have HUF : Hid (∀ f n, N f = some n → n.lv = l → uf (.int .i64 f) = true) := fun f n hn h1 => by rw [huf]; simp [nodesG, upB_some.2 ⟨hn, h1⟩]
      clear huf
      have hSY : y0.heap.size = wA.heap.size + 1 := hsy0
      have HY : Hid (y0.heap.size = wA.heap.size + 1) := hsy0
      have hX0 : TabX y0 t bn bm n1 sz A N last := hX.keeps (S := [wA.heap.size]) ((Keeps.refl _ _).grown hgy0 (by simp)) (by simp; omega) (by simp; omega) (by simp; omega)
      have HXY : Hid (TabX y0 t bn bm n1 sz A N last) := hX0
      clear hSY hsy0 hX0
      go_loopg [8, 9, 10, 12] un (fun k v8 _ _ _ wx => ∃ (left : Value → Bool) (cs : List Int) (A : Tab) (n1 : Nat), RangeIs wx Try.prog 69 ub wA.heap.size un (nodesG (keep N (upB N l))) left k ∧ TabX wx t bn bm n1 sz A N last ∧ Hid (ExS N A l last last (fun _ => True) (fun f => left (.int .i64 f) = false) (fun _ => False)) ∧ wx.ownsRow (wA.heap.size + 1) 69 1 v8 cs.length (cs.map (Value.int .i64)) ∧ Hid (CrIs N l left cs) ∧ cs.length + k ≤ un ∧ n1 + k ≤ 3 * sz ∧ Keeps [bn, bm, wA.heap.size] wA wx)
      case atStart =>
        refine ⟨uf, [], A, n1, hry0, HXY.out, HE1.out.congr (fun _ _ _ _ => Iff.rfl) (fun f n hn h1 _ => by rw [HUF.out f n hn h1]; simp) (fun _ _ _ _ _ => Iff.rfl), World.ownsRow_nil _ _ _ _, ⟨(by simp), (fun f n hn h1 _ h2 => absurd ((HUF.out f n hn h1).symm.trans h2) (by simp)), (by simp), (by simp)⟩, by simp, by omega, (Keeps.refl _ _).grown hgy0 (by simp)⟩
      case round =>
        clear hry0 HXY HE1 HUF
        obtain ⟨left, cs, A, n1, hrg, hX, hE, hown, hC, hcs, hn1, hkx⟩ := hrel
        go_wp2_with (first
          | (at_next; refine wpList_nextIs _ rfl _ rfl 69 .i64 lawFn Try.underlying69 nodeV ub wA.heap.size un _ left gk ?_ rfl hrg ?_ ?_)
          | fail)
        · intro x v hv
          obtain ⟨f, n, _, _, e⟩ := nodesG_back hv
          exact ⟨n, e⟩
        · intro hc1 hleft2
          as_aux_lemma =>
          have hE1 : ExS N A l last last (fun _ => True) (fun _ => True) (fun _ => False) := hE.out.congr (fun _ _ _ _ => Iff.rfl) (fun f n hn h1 _ => by
            have := hleft2 f (HFN.out f n hn).1.wf
            simp [this]) (fun _ _ _ _ _ => Iff.rfl)
          have hu4 := hu3.keeps hkx (by simp; omega)
          have hall : ∀ f n, N f = some n → n.lv = l → Cr N l n → f ∈ cs := fun f n hn h1 h2 => hC.out.all f n hn h1 h2 (hleft2 f (HFN.out f n hn).1.wf)
          have HE1 : Hid (ExS N A l last last (fun _ => True) (fun _ => True) (fun _ => False)) := hE1
          have HALL : Hid (∀ f n, N f = some n → n.lv = l → Cr N l n → f ∈ cs) := hall
          have hkrx : Keeps [t, bn, bm] w wr := ((((hk12.mono (S' := [bn, bm, w2.heap.size, wA.heap.size]) (by simp)).trans (hkr.mono (by simp))).trans (hkx.mono (by simp)))).strike (fun i hi' hlt => by have := hk12.size; simp at hi' ⊢; omega)
          have hlcs : cs.length ≤ 20000 := by omega
          obtain ⟨a8, c8, hv8, hrow⟩ : ∃ a8 c8, u8 = .slice a8 cs.length c8 ∧ (0 < cs.length → ∃ g, a8 = some ⟨g, 0, none⟩ ∧ wA.heap.size + 1 ≤ g ∧ ∀ j, j < cs.length → wr.cell? ⟨g, j, none⟩ = some (.int .i64 (cs.getD j 0))) := by
            rcases hown.2 with ⟨e1, e2⟩ | ⟨g, cap, cur, e1, e2, _⟩
            · exact ⟨none, 0, by rw [e1, e2], fun h => by omega⟩
            · subst e1
              refine ⟨some ⟨g, 0, none⟩, cap, rfl, fun _ => ⟨g, rfl, e2, fun j hj => ?_⟩⟩
              rw [hown.cellAt j (by omega)]
              simp [List.getD, hj]
          subst hv8
          obtain ⟨nc, hnc⟩ : ∃ nc, nc = cs.length := ⟨_, rfl⟩
          rw [← hnc] at hrow hlcs ⊢
          have HNC : Hid (nc = cs.length) := hnc
          have HROW : Hid (0 < nc → ∃ g, a8 = some ⟨g, 0, none⟩ ∧ wA.heap.size + 1 ≤ g ∧ ∀ j, j < nc → wr.cell? ⟨g, j, none⟩ = some (.int .i64 (cs.getD j 0))) := hrow
          obtain ⟨wB, rfl⟩ : ∃ wB, wB = wr := ⟨wr, rfl⟩
          have hAB := hkx.size
          clear hE1 hE hrg hleft2 hall hu3 hk1 hk2 hgy0 HY hown hrow hnc
          go_wp2_with fail
          go_loopw [14, 75] (fun _ i wx => ∃ (j : Nat) (A : Tab) (lastc : Int) (n1 n2 : Nat), j ≤ nc ∧ i = .int .i64 j ∧ TabX wx t bn bm n1 n2 A N lastc ∧ Hid (ExS N A l last lastc (fun _ => True) (fun _ => True) (fun f => f ∈ cs.take j)) ∧ lastc ≤ last + 2 * j ∧ n1 ≤ 3 * sz + 3 * j ∧ n2 ≤ sz + 2 * j ∧ Keeps [t, bn, bm] wB wx) (fun _ i _ => nc - (intOf i).toNat)
          case atStart => exact ⟨0, A, last, n1, sz, by omega, rfl, hX, HE1.out.congr (fun _ _ _ _ => Iff.rfl) (fun _ _ _ _ _ => Iff.rfl) (fun _ _ _ _ _ => by simp), by omega, by omega, by omega, Keeps.refl _ _⟩
          case round =>
            clear hX HE1
            obtain ⟨j, A, lastc, n1, n2, hj, rfl, hX, hE, hlc, hb1, hb2, hkb⟩ := hrel
            by_cases hlt : j < nc
            · obtain ⟨g, rfl, hgA, hcell⟩ := HROW.out (by omega)
              have hj0 : (0 : Int) ≤ (j : Int) := by omega
              have hj1 : (j : Int) < (nc : Int) := by omega
              have hjc : j < cs.length := by rw [← HNC.out]; exact hlt
              obtain ⟨f, hf⟩ : ∃ f, f = cs.getD j 0 := ⟨_, rfl⟩
              have hfm : f ∈ cs := by rw [hf]; simp [List.getD, hjc]
              obtain ⟨n, hN, hnl, hcr⟩ := hC.out.is f hfm
              have hcj := hkb.cell (hcell j hlt) (by simp; omega)
              rw [← hf] at hcj
              have hnP : ¬ f ∈ cs.take j := by
                intro hin
                have hd := hC.out.dist
                rw [← List.take_append_drop j cs] at hd
                have hfj : f = cs[j] := by rw [hf]; simp [List.getD, hjc]
                have hmem : f ∈ cs.drop j := by rw [hfj, List.drop_eq_getElem_cons hjc]; exact List.mem_cons_self
                exact (List.nodup_append.1 hd).2.2 f hin f hmem rfl
              have hP' : ∀ x, x ∈ cs.take (j + 1) ↔ x ∈ cs.take j ∨ x = f := by
                intro x
                have e : cs[j] = f := by rw [hf]; simp [List.getD, hjc]
                rw [List.take_succ_eq_append_getElem hjc, e]
                simp
              obtain ⟨z0, z1, z2, z3⟩ := HFN.out f n hN
              have okl := hw.lo f n hN
              have okh := hw.hi f n hN
              rw [hnl] at okl okh
              have hu5 := hu4.keeps hkb (by simp; omega)
              have hG : nodesG (keep N (upB N l)) (.int .i64 f) = some (nodeV n) := by simp [nodesG, upB_some.2 ⟨hN, hnl⟩]
              unfold nodeV trip at hG
              have hkeyf := keyFn z0
              have HN : Hid (N f = some n) := hN
              have HNL : Hid (n.lv = l) := hnl
              have HCR : Hid (Cr N l n) := hcr
              have HNP : Hid (¬ f ∈ cs.take j) := hnP
              have HP' : Hid (∀ x, x ∈ cs.take (j + 1) ↔ x ∈ cs.take j ∨ x = f) := hP'
              have hfl : Fits l := by unfold Fits; omega
              clear hN hnl hcr hnP hP' hf hfm hcell
              go_wp2_with (first
                | (at_lookup; refine wpList_look _ rfl _ _ 110 rfl 69 115 lawFn Try.underlying110 (zeroNode _) ub un (nodesG (keep N (upB N l))) rfl hu5 (.int .i64 f) _ rfl hkeyf ?_; rw [hG])
                | fail)
              refine (cross_any hX hw hE.out (fun _ => trivial) hbig hl0 (by omega) okl okh (by omega) (by omega) (by omega)).mono ?_
              rintro e w4 ⟨a, b, A4, lc4, m3, m4, rfl, hX4, hE4, ja, jb, fa, fb, hlc4, hm3, hm4, hk4⟩
              have hA0 := hE4.cr0 f n HN.out HNL.out HCR.out HNP.out
              have hfr := hE4.cr_new hw HN.out HNL.out HCR.out HNP.out ja jb
              have hE5 := hE4.cr_put hw HN.out HNL.out HCR.out HNP.out ja jb
              have HA0 : Hid (A4 f = none) := hA0
              have HFR : Hid (∀ g, A4 g ≠ some ⟨l, a, b⟩) := hfr
              have HE5 : Hid (ExS N (upd A4 f ⟨l, a, b⟩) l last lc4 (fun _ => True) (fun _ => True) (fun g => g ∈ cs.take j ∨ g = f)) := hE5
              clear hA0 hfr hE5 ja jb hE4 hG hE
              unfold trip
              go_wp2_with fail
              refine (put_x (m := ⟨l, a, b⟩) hX4 HA0.out HN.out HFR.out z0 hfl fa fb (by omega) (by omega)).mono ?_
              rintro e w5 ⟨rfl, ⟨n1', hn1', hX5⟩, hk5⟩
              go_wp2_with fail
              go_roundw
              case rel =>
                exact ⟨j + 1, _, lc4, n1', m4, by omega, by go_num, hX5, HE5.out.congr (fun _ _ _ _ => Iff.rfl) (fun _ _ _ _ _ => Iff.rfl) (fun g m hg h1 h2 => (HP'.out g).symm), by omega, by omega, by omega, (hkb.trans hk4).trans (hk5.mono (by simp))⟩
              case measure => simp [intOf]; omega
            · have ej : j = nc := by omega
              subst ej
              have hE3 : ExS N A l last lastc (fun _ => True) (fun _ => True) (AtLv N l) := hE.out.congr (fun _ _ _ _ => Iff.rfl) (fun _ _ _ _ _ => Iff.rfl) (fun f n hn h1 h2 => by
                rw [HNC.out, List.take_length]
                exact ⟨fun _ => ⟨n, hn, h1⟩, fun _ => HALL.out f n hn h1 h2⟩)
              have hwA := hE3.wf hw hl0 hl1 (fun _ => trivial) (fun _ => trivial) (fun _ h => h)
              have htot := hE3.total (fun _ => trivial) (fun _ => trivial) (fun _ h => h)
              have hnod : MapIs wr Try.prog 69 bm n2 (nodesG A) := by have := hX.nodes; rw [htot] at this; exact this
              have hss := same_size hX.u (hwA.fitsN hX.big) hX.names hnod
              subst hss
              have HTA : Hid (TabAt wr t bn bm n1 A top lastc) := ⟨hwA, hX.c0, hX.c1, hX.c2, hX.f2, hX.names, hnod, hX.ne, hX.big⟩
              have HE3 : Hid (ExS N A l last lastc (fun _ => True) (fun _ => True) (AtLv N l)) := hE3
              clear hE3 hwA htot hnod
              go_wp2_with fail
              go_end0
              exact ⟨A, lastc, n1, rfl, HTA.out, HE3.out, by omega, hkrx.trans hkb⟩
        · intro f n w3 cnt1 hwf hlf hG hrg1 hlt1 hg1 hs1 hen
          as_aux_lemma =>
          obtain ⟨f', n', hfn, e1, e2⟩ := nodesG_back hG
          have e3 : f = f' := by cases e1; rfl
          subst e3
          have e4 := nodeV_inj e2
          subst e4
          obtain ⟨hN, hnl⟩ := upB_some.1 hfn
          have hX3 : TabX w3 t bn bm n1 sz A N last := hX.keeps (S := [wA.heap.size]) ((Keeps.refl _ _).grown hg1 (by simp)) (by simp; omega) (by simp; omega) (by simp; omega)
          have hk3 : Keeps [bn, bm, wA.heap.size] wA w3 := hkx.grown hg1 (by simp)
          have hown3 : w3.ownsRow (wA.heap.size + 1) 69 1 u8 cs.length (cs.map (Value.int .i64)) := ownsRow_keepsB hown ((Keeps.refl [wA.heap.size] wr).grown hg1 (by simp)) (fun g hg => by have := (hown.lt g hg).1; simp; omega)
          obtain ⟨z0, z1, z2, z3⟩ := HFN.out f n hN
          have okl := hw.lo f n hN
          have okh := hw.hi f n hN
          rw [hnl] at okl okh
          have HN : Hid (N f = some n) := hN
          have HNL : Hid (n.lv = l) := hnl
          have HLF2 : Hid (left (.int .i64 f) = true) := hlf
          have hvl : ∀ x, Ok N (l + 1) x → (lvl (ov A N) x = l ↔ AtLv N (l + 1) x) := fun x hx => lvl_ov hw hE.out (fun _ _ _ _ => trivial) (by omega) hx
          have HV1 : Hid (lvl (ov A N) n.lo = l ↔ AtLv N (l + 1) n.lo) := hvl _ okl
          have HV2 : Hid (lvl (ov A N) n.hi = l ↔ AtLv N (l + 1) n.hi) := hvl _ okh
          have hsx := hkx.size
          have hs3 : wA.heap.size + 1 ≤ w3.heap.size := by have := hrg1.lt; omega
          have hk3s := hk3.size
          clear hN hfn e1 e2 hG hnl hs1 hlf hrg hX hvl okl okh hown hkx hsx
          unfold nodeV trip at hen ⊢
          go_wp2_with fail
          obtain ⟨W4, hW4⟩ : ∃ W4, W4 = w3.alloc (Obj.cells #[Value.int IntKind.i64 n.lv, Value.int IntKind.i64 n.lo, Value.int IntKind.i64 n.hi] 115) := ⟨_, rfl⟩
          rw [← hW4]
          have hk4 : Keeps [] w3 W4 := by rw [hW4]; exact (Keeps.refl _ _).alloc _
          have hX4 := hX3.keeps hk4 (by simp) (by simp) (by simp)
          have hown4W := ownsRow_keepsB hown3 hk4 (by simp)
          have b1 : W4.cell? ⟨w3.heap.size, 1, none⟩ = some (.int .i64 n.lo) := by rw [hW4]; simp
          have b2 : W4.cell? ⟨w3.heap.size, 2, none⟩ = some (.int .i64 n.hi) := by rw [hW4]; simp
          have HW4 : Hid (W4 = w3.alloc (Obj.cells #[Value.int IntKind.i64 n.lv, Value.int IntKind.i64 n.lo, Value.int IntKind.i64 n.hi] 115)) := hW4
          have hs4 : w3.heap.size + 1 = W4.heap.size := by rw [hW4]; simp
          clear hW4
          go_loopg [8, 12, 50] 2 (fun g2 s8 _ s50 wy => ∃ j : Int, s8 = u8 ∧ ((j = 0 ∧ g2 = 2) ∨ (j = 1 ∧ g2 = 1 ∧ Hid (¬ AtLv N (l + 1) n.lo)) ∨ (j = 2 ∧ g2 = 0 ∧ Hid (¬ AtLv N (l + 1) n.lo) ∧ Hid (¬ AtLv N (l + 1) n.hi))) ∧ s50 = .int .i64 j ∧ Keeps [] W4 wy)
          case atStart => exact ⟨0, rfl, Or.inl ⟨rfl, rfl⟩, rfl, Keeps.refl _ _⟩
          case round =>
            obtain ⟨j, rfl, hj, rfl, hky⟩ := hrel
            have hXy := hX4.keeps hky (by simp) (by simp) (by simp)
            have hown4 := ownsRow_keepsB hown4W hky (by simp)
            have b1' := hky.cell b1 (by simp)
            have b2' := hky.cell b2 (by simp)
            have hi0 := idx2_0 n.lo n.hi
            have hi1 := idx2_1 n.lo n.hi
            rcases hj with ⟨rfl, rfl⟩ | ⟨rfl, rfl, hATL⟩ | ⟨rfl, rfl, hATL, hATH⟩
            · as_aux_lemma =>
              obtain ⟨lv0, hlv0⟩ : ∃ lv0, lv0 = lvl (ov A N) n.lo := ⟨_, rfl⟩
              have hcall := level_raw hXy.c1 hXy.nodes z2
              rw [← hlv0] at hcall
              have HLV : Hid (lv0 = lvl (ov A N) n.lo) := hlv0
              clear hlv0
              by_cases hat : AtLv N (l + 1) n.lo
              · have hq : lv0 = l := HLV.out.trans (HV1.out.2 hat)
                have hcr : Cr N l n := Or.inl hat
                have hE2 := hE.out.sink_skip HN.out hcr
                have hC2 := hC.out.add HN.out HNL.out hcr HLF2.out
                have HE2 : Hid (ExS N A l last last (fun _ => True) (fun g => left (.int .i64 g) = false ∨ g = f) (fun _ => False)) := hE2
                have HC2 : Hid (CrIs N l (strike left (.int .i64 f)) (cs ++ [f])) := hC2
                clear hE2 hC2 hcr hat
                rw [hq] at hcall
                go_wp2_with (first
                  | (go_at_call 79; refine hcall.mono ?_; rintro e w5 ⟨rfl, hk5⟩; have hown5 := ownsRow_keepsB hown4 hk5 (by simp); have hk45 := hky.trans hk5; have hs5 := hk45.size)
                  | (at_builtin; refine wpList_append_own_at _ rfl _ _ 61 rfl (wA.heap.size + 1) 69 i0 (.int .i64 0) 1 8 Try.underlying61 hi hz0 hz1 hz2 rfl (by decide) _ cs.length (cs.map (Value.int .i64)) rfl (hown5.alloc _) ⟨w5.heap.size, 0, none⟩ 1 1 [.int .i64 f] rfl rfl (cell_one_new _ _ _) (ints_oneCell .i64 [f]) (by omega) (by omega) (by simp; omega) ?_; intro v' w6 hown6 hgrow6 hnil6 hloc6)
                  | fail)
                have k36 : Keeps u8.ownBlock.toList w3 w6 := (((hk4.trans hk45).mono (by simp)).alloc _).grown hgrow6 (fun k hk' => Or.inl (Option.mem_toList.2 hk'))
                have nin : ∀ b, b ≤ wA.heap.size → b ∉ u8.ownBlock.toList := fun b hb hin => by have := (hown3.lt b (Option.mem_toList.1 hin)).1; omega
                go_roundg cnt1
                case measure => exact hlt1
                case rel =>
                  refine ⟨_, cs ++ [f], A, n1, hrg1.keeps k36 (nin _ (by omega)) (nin _ (by omega)), hX3.keeps k36 (nin _ (by omega)) (nin _ (by omega)) (nin _ (by omega)), HE2.out.congr (fun _ _ _ _ => Iff.rfl) (fun g m hg h1 _ => (strike_iff left f g).symm) (fun _ _ _ _ _ => Iff.rfl), ?_, HC2.out, by simp; omega, by omega, ?_⟩
                  · rw [List.map_append, List.length_append]; exact hown6
                  · exact ((hk3.mono (S' := wA.heap.size :: bn :: bm :: u8.ownBlock.toList) (by simp)).trans (k36.mono (fun i hi => by simp only [List.mem_cons]; exact Or.inr (Or.inr (Or.inr hi))))).strike (fun i hi' hlt => by
                      simp only [List.mem_cons] at hi'
                      rcases hi' with rfl | rfl | rfl | hin
                      · simp
                      · simp
                      · simp
                      · have := (hown3.lt i (Option.mem_toList.1 hin)).1; omega)
              · have hq : ¬ lv0 = l := fun e => hat (HV1.out.1 (HLV.out.symm.trans e))
                have hq' : (lv0 == l) = false := by simp [hq]
                have HATL : Hid (¬ AtLv N (l + 1) n.lo) := hat
                clear hq hat
                go_wp2_with (first
                  | (go_at_call 79; refine hcall.mono ?_; rintro e w5 ⟨rfl, hk5⟩)
                  | fail)
                go_roundg 1
                case measure => omega
                case rel => exact ⟨1, rfl, Or.inr (Or.inl ⟨rfl, rfl, HATL⟩), rfl, hky.trans hk5⟩
            · as_aux_lemma =>
              obtain ⟨lv0, hlv0⟩ : ∃ lv0, lv0 = lvl (ov A N) n.hi := ⟨_, rfl⟩
              have hcall := level_raw hXy.c1 hXy.nodes z3
              rw [← hlv0] at hcall
              have HLV : Hid (lv0 = lvl (ov A N) n.hi) := hlv0
              clear hlv0
              by_cases hat : AtLv N (l + 1) n.hi
              · have hq : lv0 = l := HLV.out.trans (HV2.out.2 hat)
                have hcr : Cr N l n := Or.inr hat
                have hE2 := hE.out.sink_skip HN.out hcr
                have hC2 := hC.out.add HN.out HNL.out hcr HLF2.out
                have HE2 : Hid (ExS N A l last last (fun _ => True) (fun g => left (.int .i64 g) = false ∨ g = f) (fun _ => False)) := hE2
                have HC2 : Hid (CrIs N l (strike left (.int .i64 f)) (cs ++ [f])) := hC2
                clear hE2 hC2 hcr hat
                rw [hq] at hcall
                go_wp2_with (first
                  | (go_at_call 79; refine hcall.mono ?_; rintro e w5 ⟨rfl, hk5⟩; have hown5 := ownsRow_keepsB hown4 hk5 (by simp); have hk45 := hky.trans hk5; have hs5 := hk45.size)
                  | (at_builtin; refine wpList_append_own_at _ rfl _ _ 61 rfl (wA.heap.size + 1) 69 i0 (.int .i64 0) 1 8 Try.underlying61 hi hz0 hz1 hz2 rfl (by decide) _ cs.length (cs.map (Value.int .i64)) rfl (hown5.alloc _) ⟨w5.heap.size, 0, none⟩ 1 1 [.int .i64 f] rfl rfl (cell_one_new _ _ _) (ints_oneCell .i64 [f]) (by omega) (by omega) (by simp; omega) ?_; intro v' w6 hown6 hgrow6 hnil6 hloc6)
                  | fail)
                have k36 : Keeps u8.ownBlock.toList w3 w6 := (((hk4.trans hk45).mono (by simp)).alloc _).grown hgrow6 (fun k hk' => Or.inl (Option.mem_toList.2 hk'))
                have nin : ∀ b, b ≤ wA.heap.size → b ∉ u8.ownBlock.toList := fun b hb hin => by have := (hown3.lt b (Option.mem_toList.1 hin)).1; omega
                go_roundg cnt1
                case measure => exact hlt1
                case rel =>
                  refine ⟨_, cs ++ [f], A, n1, hrg1.keeps k36 (nin _ (by omega)) (nin _ (by omega)), hX3.keeps k36 (nin _ (by omega)) (nin _ (by omega)) (nin _ (by omega)), HE2.out.congr (fun _ _ _ _ => Iff.rfl) (fun g m hg h1 _ => (strike_iff left f g).symm) (fun _ _ _ _ _ => Iff.rfl), ?_, HC2.out, by simp; omega, by omega, ?_⟩
                  · rw [List.map_append, List.length_append]; exact hown6
                  · exact ((hk3.mono (S' := wA.heap.size :: bn :: bm :: u8.ownBlock.toList) (by simp)).trans (k36.mono (fun i hi => by simp only [List.mem_cons]; exact Or.inr (Or.inr (Or.inr hi))))).strike (fun i hi' hlt => by
                      simp only [List.mem_cons] at hi'
                      rcases hi' with rfl | rfl | rfl | hin
                      · simp
                      · simp
                      · simp
                      · have := (hown3.lt i (Option.mem_toList.1 hin)).1; omega)
              · have hq : ¬ lv0 = l := fun e => hat (HV2.out.1 (HLV.out.symm.trans e))
                have hq' : (lv0 == l) = false := by simp [hq]
                have HATH : Hid (¬ AtLv N (l + 1) n.hi) := hat
                clear hq hat
                go_wp2_with (first
                  | (go_at_call 79; refine hcall.mono ?_; rintro e w5 ⟨rfl, hk5⟩)
                  | fail)
                go_roundg 0
                case measure => omega
                case rel => exact ⟨2, rfl, Or.inr (Or.inr ⟨rfl, rfl, hATL, HATH⟩), rfl, hky.trans hk5⟩
            · as_aux_lemma =>
              have hnc : ¬ Cr N l n := fun h => h.elim hATL.out hATH.out
              have hS : ¬ left (.int .i64 f) = false := by rw [HLF2.out]; simp
              have HA0 : Hid (A f = none) := hE.out.sink0 f n HN.out HNL.out hnc hS
              have HFR : Hid (∀ g, A g ≠ some ⟨l + 1, n.lo, n.hi⟩) := hE.out.sink_new hw HN.out HNL.out hS
              have HE2 : Hid (ExS N (upd A f ⟨l + 1, n.lo, n.hi⟩) l last last (fun _ => True) (fun g => left (.int .i64 g) = false ∨ g = f) (fun _ => False)) := hE.out.sink_put hw HN.out HNL.out hnc hS
              have HC2 : Hid (CrIs N l (strike left (.int .i64 f)) cs) := hC.out.skip HN.out hnc
              have hfl : Fits (l + 1) := by unfold Fits; omega
              clear hnc hS
              go_wp2_with fail
              refine (put_x (m := ⟨l + 1, n.lo, n.hi⟩) hXy HA0.out HN.out HFR.out z0 hfl z2 z3 (by omega) (by omega)).mono ?_
              rintro e w5 ⟨rfl, ⟨n1', hn1', hX5⟩, hk5⟩
              go_wp2_with fail
              go_roundg cnt1
              case measure => exact hlt1
              case rel =>
                have k35 : Keeps [bn, bm] w3 w5 := ((hk4.trans hky).mono (by simp)).trans hk5
                exact ⟨_, cs, _, n1', hrg1.keeps k35 (by simp; omega) (by simp; omega), hX5, HE2.out.congr (fun _ _ _ _ => Iff.rfl) (fun g m hg h1 _ => (strike_iff left f g).symm) (fun _ _ _ _ _ => Iff.rfl), ownsRow_keepsB hown4 hk5 (fun g hg => by have := (hown4.lt g hg).1; simp; omega), HC2.out, by omega, by omega, hk3.trans (k35.mono (by simp))⟩
    · intro f n w3 cnt1 hwf hlf hG hrg1 hlt1 hg1 hs1 hen
      obtain ⟨f', n', hfn, e1, e2⟩ := nodesG_back hG
      have e3 : f = f' := by cases e1; rfl
      subst e3
      have e4 := nodeV_inj e2
      subst e4
      obtain ⟨hN, hnl⟩ := loB_some.1 hfn
      have hX3 : TabX w3 t bn bm n1 sz A N last := hX.keeps (S := [w2.heap.size]) ((Keeps.refl _ _).grown hg1 (by simp)) (by simp; omega) (by simp; omega) (by simp; omega)
      have hk3 : Keeps [bn, bm, w2.heap.size] w2 w3 := hkr.grown hg1 (by simp)
      have hD : ¬ left (.int .i64 f) = false := by rw [hlf]; simp
      have hA0 := hE.out.low0 f n hN hnl hD
      have hfr := hE.out.low_new hw hN hnl hD
      have hE' := hE.out.low_put hw hN hnl hD
      obtain ⟨z0, z1, z2, z3⟩ := HFN.out f n hN
      have HA0 : Hid (A f = none) := hA0
      have HN : Hid (N f = some n) := hN
      have HFR : Hid (∀ g, A g ≠ some ⟨l, n.lo, n.hi⟩) := hfr
      have HE' : Hid (ExS N (upd A f ⟨l, n.lo, n.hi⟩) l last last (fun g => left (.int .i64 g) = false ∨ g = f) (fun _ => False) (fun _ => False)) := hE'
      have hfl : Fits l := by unfold Fits; omega
      clear hA0 hN hfr hE' hfn e1 e2 hG hnl hs1 hlf hD hrg hX
      unfold nodeV trip at hen ⊢
      go_wp2_with fail
      refine (put_x (m := ⟨l, n.lo, n.hi⟩) (hX3.keeps ((Keeps.refl [] _).alloc _) (by simp) (by simp) (by simp)) HA0.out HN.out HFR.out z0 hfl z2 z3 (by omega) (by omega)).mono ?_
      rintro e w4 ⟨rfl, ⟨n1', hn1', hX4⟩, hk4⟩
      have kk : Keeps [bn, bm] w3 w4 := ((Keeps.refl _ _).alloc _).trans hk4
      have hrg4 := hrg1.keeps kk (by simp; omega) (by simp; omega)
      go_wp2_with fail
      go_roundw
      case rel =>
        refine ⟨_, cnt1, _, n1', hrg4, hX4, HE'.out.congr (fun g m hg h1 => ?_) (fun _ _ _ _ _ => Iff.rfl) (fun _ _ _ _ _ => Iff.rfl), by omega, hk3.trans (kk.mono (by simp))⟩
        by_cases e : g = f
        · subst e; simp [strike_same]
        · rw [strike_other _ (by simp [e])]; simp [e]
      case measure => rw [hrg4.left_eq, HLE.out]; exact hlt1

end Go.Proofs.Ytmgjegokkbghlaa
