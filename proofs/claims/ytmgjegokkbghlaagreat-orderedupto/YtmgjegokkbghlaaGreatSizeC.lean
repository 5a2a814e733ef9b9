/- The calls Size and Nodes; how many nodes two functions have. -/
import Derived.Test.YtmgjegokkbghlaaGreatShape
import Derived.Test.YtmgjegokkbghlaaGreatLeastC
import Derived.Test.YtmgjegokkbghlaaGreatKeys
namespace Go.Proofs.YtmgjegokkbghlaaGreat
open Go.RowKit Go.Maps Bdd
attribute [local go_sem ↓] Go.wp_at_zero Go.wp_at_succ

theorem rch_some {N : Tab} {f x : Int} (hr : Rch N f x) : ∃ n, N x = some n := by
  induction hr with
  | self h => exact ⟨_, h⟩
  | lo _ _ ih => exact ih
  | hi _ _ ih => exact ih

set_option maxRecDepth 100000 in
set_option maxHeartbeats 1000000 in
theorem size_call {w : World} {s hb t bn bm L nh sz : Nat} {od : Ord L} {lim given lb : Int} {V : Int → Option Fun} (h : St w s hb t bn bm od nh sz lim given V lb) {f : Int} {F : Fun} (hf : V f = some F) :
    Calls Tryz.prog 61 #[.pointer (some ⟨s, 0, none⟩), .int .i64 f] w fun e w' => Keeps [] w w' ∧ ∃ (c : Nat) (N : Tab) (last f0 : Int), e = .returned (.tuple #[.int .i64 (c : Int), .int .i64 0]) ∧ Wf N (L : Int) last ∧ last ≤ 4611686018427387904 ∧ Ok N 0 f0 ∧ (∀ a, FV N od f0 a = F a) ∧ (∀ l : List Int, l.Nodup → l.length < 1000000 → (∀ x, Rch N f0 x ↔ x ∈ l) → c = l.length) := by
  obtain ⟨N, last, H, hst, k1, k2, k3, k4, k5, k6⟩ := h
  obtain ⟨f0, e0, e1⟩ := St.has k2 hf
  have hfit : Fits f := by have := hst.hr f f0 e0; unfold Fits; omega
  have hmm := @run_makeMap Tryz.prog
  have hk : Keeps [] w (w.alloc (.cells #[.int .i64 f] 3)) := (Keeps.refl _ _).alloc _
  have hst' := hst.keeps hk
  have HF : Hid (H f = some f0) := e0
  have HE : Hid (FV N od f0 = F) := e1
  have ls : s < w.heap.size := cell_lt (p := ⟨s, 0, none⟩) hst.c0
  clear k2 hf e0 e1
  go_enter Tryz.func61, Tryz.ntmps61
  go_wp2_with fail
  refine (find_any (b := w.heap.size) hst' [f] (by simp) (fun j hj => by simp at hj; subst hj; simpa using hfit) (fun j hj => by simp at hj; subst hj; simp) (by simp)).mono ?_
  rintro e w1 (⟨⟨j, hj, hn⟩, _⟩ | ⟨_, g, cap, rfl, hg, hcell, hk1⟩)
  · simp at hj
    subst hj
    simp [HF.out] at hn
  · have hc0 := hcell 0 (by simp)
    simp [HF.out] at hc0
    have hst1 := hst'.keeps hk1
    have hkw := hk.trans hk1
    have lg : g < w1.heap.size := cell_lt (p := ⟨g, 0, none⟩) hc0
    have c4 := hst1.c4
    have l0 : s < w1.heap.size := cell_lt (p := ⟨s, 4, none⟩) c4
    simp only [List.length_cons, List.length_nil, Nat.zero_add]
    go_wp2_with fail
    obtain ⟨Y, hY⟩ : ∃ Y, Y = w1.alloc (.map #[] 0) := ⟨_, rfl⟩
    rw [← hY]
    have hkY : Keeps [] w1 Y := by rw [hY]; exact (Keeps.refl _ _).alloc _
    have hm0 : MapIs Y Tryz.prog 95 w1.heap.size 0 (setV (fun _ => false)) := by
      rw [hY]
      refine (MapIs.made w1 Tryz.prog 95).congr (fun v _ _ => ?_)
      unfold setV
      split <;> rfl
    have hlY : w1.heap.size < Y.heap.size := by rw [hY]; simp
    clear hY
    have hstY := hst1.keeps hkY
    have d4 := hstY.c4
    have dg := hkY.cell hc0 (by simp)
    have hlts := hst1.lts
    have hof := hst.ok f f0 HF.out
    have hL8 : L ≤ 8 := by have := hst.tab.wf.tops; omega
    have hp : pw 8 = 256 := by decide
    have hml : 256 < maxLen := by decide
    have hB : w1.heap.size ∉ [s, hb, t, bn, bm, od.blk] := fun hin => by have := hlts _ hin; omega
    have hB1 : w1.heap.size ≠ bn := fun e => hB (by simp [e])
    have hB2 : w1.heap.size ≠ bm := fun e => hB (by simp [e])
    have hsB : s ∉ [w1.heap.size] := by simp; omega
    have hgB : g ∉ [w1.heap.size] := by simp; omega
    have hk0 : Keeps [w1.heap.size] Y Y.drew := (Keeps.refl _ _).drew
    have hTd := (hstY.keeps ((Keeps.refl [] Y).drew)).tab
    go_region_held3 (fun w' => w'.cell? ⟨s, 4, none⟩ = some (.pointer (some ⟨t, 0, none⟩)) ∧ w'.cell? ⟨g, 0, none⟩ = some (.int .i64 f0) ∧ Keeps [w1.heap.size] Y w')
      (first | exact ⟨d4, dg, hk0⟩ | exact ⟨hk2.cell d4 hsB, hk2.cell dg hgB, hk0.trans hk2⟩ | assumption)
      (first
        | (go_at_call 91; refine (gather_any 8 Y.drew t bn bm w1.heap.size sz 0 N (L : Int) last (fun _ => false) 0 f0 hTd hm0.drew hB1 hB2 ?z1 hof ?z2).mono ?_; (case z1 => omega); (case z2 => rw [hp]; omega); rintro e w2 ⟨K', ns', rfl, hm2, h3, h4, h5, h6, h7, hk2⟩))
    have hrun := fun ty => hm2.len Tryz.underlying119 ty
    have s2 := (by assumption : w2.cell? ⟨s, 4, none⟩ = some (.pointer (some ⟨t, 0, none⟩)) ∧ w2.cell? ⟨g, 0, none⟩ = some (.int .i64 f0) ∧ Keeps [w1.heap.size] Y w2).2.2
    go_wp2_with fail
    go_ret2
    have hall : ∀ x, Rch N f0 x → K' x = true := by
      have key : ∀ {f x : Int}, Rch N f x → K' f = true → K' x = true := by
        intro f x hr
        induction hr with
        | self _ => exact fun h => h
        | @lo f n x hn hr ih =>
          intro h
          obtain ⟨m, hm⟩ := rch_node hr
          exact ih ((h6 f n h (by first | rfl | trivial) hn).1 m hm)
        | @hi f n x hn hr ih =>
          intro h
          obtain ⟨m, hm⟩ := rch_node hr
          exact ih ((h6 f n h (by first | rfl | trivial) hn).2 m hm)
      intro x hr
      obtain ⟨n, hn⟩ := rch_node hr
      exact key hr (h5 n hn)
    refine ⟨(((hkw.trans hkY).mono (by simp)).trans s2).strike (by simp; exact hkw.size), ns', N, last, f0, rfl, hst.tab.wf, hst.tab.big, hof, fun a => by rw [HE.out], fun l hd hn hl => ?_⟩
    refine hm2.count l hd (fun x hx => ?_) hn (fun key => ?_)
    · obtain ⟨n, hn⟩ := rch_some ((hl x).2 hx)
      exact hst.tab.fits (ok_node hn)
    · constructor
      · intro hs
        unfold setV at hs
        split at hs
        · rename_i y
          cases hK : K' y with
          | false => simp [hK] at hs
          | true =>
            rcases h4 y hK with h | h
            · cases h
            · exact ⟨y, (hl y).1 h, rfl⟩
        · cases hs
      · rintro ⟨x, hx, rfl⟩
        simp [setV, hall x ((hl x).2 hx)]

set_option maxRecDepth 100000 in
theorem nodes_call {w : World} {s hb t bn bm L nh sz : Nat} {od : Ord L} {lim given lb : Int} {V : Int → Option Fun} (h : St w s hb t bn bm od nh sz lim given V lb) :
    Calls Tryz.prog 57 #[.pointer (some ⟨s, 0, none⟩)] w fun e w' => Keeps [] w w' ∧ ∃ (N : Tab) (last : Int) (H : Int → Option Int), e = .returned (.int .i64 (sz : Int)) ∧ Wf N (L : Int) last ∧ last ≤ 4611686018427387904 ∧ Trim N H ∧ (∀ x, V x = (H x).map (FV N od)) ∧ (∀ x f0, H x = some f0 → Ok N 0 f0) ∧ (∀ l : List Int, l.Nodup → l.length < 1000000 → (∀ x, (∃ n, N x = some n) ↔ x ∈ l) → sz = l.length) := by
  obtain ⟨N, last, H, hst, k1, k2, k3, k4, k5, k6⟩ := h
  have c4 := hst.c4
  have HK : Hid (∀ x, V x = (H x).map (FV N od)) := k2
  clear k2
  go_enter Tryz.func57, Tryz.ntmps57
  go_wp2_with fail
  refine (len_any hst.tab).mono ?_
  rintro e w1 ⟨rfl, rfl⟩
  go_wp2_with fail
  go_ret
  refine ⟨Keeps.refl _ _, N, last, H, rfl, hst.tab.wf, hst.tab.big, k1, HK.out, hst.ok, fun l hd hn hl => ?_⟩
  refine hst.tab.nodes.count l hd (fun x hx => ?_) hn (fun key => ?_)
  · obtain ⟨n, hn⟩ := (hl x).2 hx
    exact hst.tab.fits (ok_node hn)
  · constructor
    · intro hs
      unfold nodesG at hs
      split at hs
      · rename_i f
        simp at hs
        obtain ⟨n, hn⟩ := Option.isSome_iff_exists.1 hs
        exact ⟨f, (hl f).1 ⟨n, hn⟩, rfl⟩
      · cases hs
    · rintro ⟨x, hx, rfl⟩
      obtain ⟨n, hn⟩ := (hl x).2 hx
      simp [nodesG, hn]

end Go.Proofs.YtmgjegokkbghlaaGreat
