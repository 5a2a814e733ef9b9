/- begun. -/
import Derived.Test.YtmgjegokkbghlaaValues
import Derived.Test.YtmgjegokkbghlaaNew
namespace Go.Proofs.Ytmgjegokkbghlaa
open Go.RowKit Go.Maps Bdd

abbrev Md := Int × (Nat → Bool)
abbrev mL (m : Md) : List Value := [.int .i64 m.1, .bool (m.2 0), .bool (m.2 1), .bool (m.2 2), .bool (m.2 3), .bool (m.2 4), .bool (m.2 5), .bool (m.2 6), .bool (m.2 7), .bool (m.2 8), .bool (m.2 9), .bool (m.2 10), .bool (m.2 11), .bool (m.2 12), .bool (m.2 13), .bool (m.2 14), .bool (m.2 15)]
def flat (ms : List Md) : List Value := ms.flatMap fun m => mL m
theorem flat_snoc (ms : List Md) (m : Md) : flat (ms ++ [m]) = flat ms ++ mL m := by simp [flat]
theorem flat_len (ms : List Md) : (flat ms).length = ms.length * 17 := by
  induction ms with
  | nil => rfl
  | cons m r ih => simp only [flat, List.flatMap_cons, List.length_append] at ih ⊢; rw [ih]; simp; omega
theorem flat_get : ∀ (ms : List Md) (j i : Nat), i < 17 → ∀ (hj : j < ms.length), (flat ms)[j * 17 + i]? = (mL ms[j])[i]?
  | [], j, i, _, hj => by simp at hj
  | m :: r, 0, i, hi, hj => by
    simp only [flat, List.flatMap_cons, List.getElem_cons_zero]
    rw [List.getElem?_append_left (by simp; omega)]
    simp
  | m :: r, j + 1, i, hi, hj => by
    simp only [flat, List.flatMap_cons, List.getElem_cons_succ]
    rw [List.getElem?_append_right (by simp; omega)]
    have := flat_get r j i hi (by simpa using hj)
    rw [← this]
    simp only [flat, List.length_cons, List.length_nil]
    congr 1
    omega

theorem ownsRow_keeps {w w' : World} {base : Nat} {e : TypeId} {size n : Nat} {v : Value} {xs : List Value} {S : List Nat} (h : w.ownsRow base e size v n xs) (hk : Keeps S w w') (hS : ∀ g, v.ownBlock = some g → g ∉ S) : w'.ownsRow base e size v n xs := by
  refine ⟨h.1, ?_⟩
  rcases h.2 with h' | ⟨g, cap, cur, rfl, hb, hgg, rest⟩
  · exact .inl h'
  · refine .inr ⟨g, cap, cur, rfl, hb, ?_, rest⟩
    rw [hk.block g (Array.getElem?_eq_some_iff.1 hgg).1 (hS g rfl)]
    exact hgg

theorem cells_new (w : World) (C : List Value) (t : TypeId) : ∀ j u, C[j]? = some u → (w.alloc (.cells C.toArray t)).cell? ((⟨w.heap.size, 0, none⟩ : Addr).add j) = some u := by
  intro j u hj
  rw [Addr.add_mid, World.cell?_alloc_at _ _ _ _ rfl]
  simpa using hj

theorem info34 : (Try.prog.info? 31).map (fun i => (i.zero, i.size, i.bytes)) = some (some (.agg #[.int .i64 0, .bool false, .bool false, .bool false, .bool false, .bool false, .bool false, .bool false, .bool false, .bool false, .bool false, .bool false, .bool false, .bool false, .bool false, .bool false, .bool false]), 17, 24) := by kernel_rfl
theorem size34 : (Try.prog.info? 31).map (·.size) = some 17 := by kernel_rfl

/-- what was made is what is held -/
def Good (V : Int → Option Fun) (ms : List Md) : Prop := ∀ j (hj : j < ms.length), ms[j].1 = (j : Int) + 1 ∧ ∃ F, V ((j : Int) + 1) = some F ∧ (∀ i, i < 16 → F (asg i) = ms[j].2 i) ∧ (j < 4 → F = fun a => a (j : Int))
theorem good_add {V : Int → Option Fun} {ms : List Md} (h : Good V ms) {F : Fun} {tt : Nat → Bool} (hF : ∀ i, i < 16 → F (asg i) = tt i) (hv : ms.length < 4 → F = fun a => a (ms.length : Int)) : Good (addV V ((ms.length : Int) + 1) F) (ms ++ [((ms.length : Int) + 1, tt)]) := by
  intro j hj
  by_cases e : j = ms.length
  · subst e
    simp only [List.getElem_append_right (Nat.le_refl _), Nat.sub_self, List.getElem_cons_zero, true_and]
    exact ⟨F, addV_same _ _ _, hF, hv⟩
  · have hj' : j < ms.length := by simp at hj; omega
    rw [List.getElem_append_left hj', addV_other _ _ (by omega)]
    exact h j hj'

/-- a box of a 'made' whose first i values are written -/
def Part (w : World) (B : Nat) (h : Int) (tt : Nat → Bool) (i : Nat) : Prop := w.cell? ⟨B, 0, none⟩ = some (.int .i64 h) ∧ ∀ j, j < 16 → w.cell? ⟨B, 1 + j, none⟩ = some (.bool (if j < i then tt j else false)) ∧ w.frozen? ⟨B, 1 + j, none⟩ = false
theorem part_start (w : World) (h : Int) (tt : Nat → Bool) : Part (w.alloc (.cells #[.int .i64 h, .bool false, .bool false, .bool false, .bool false, .bool false, .bool false, .bool false, .bool false, .bool false, .bool false, .bool false, .bool false, .bool false, .bool false, .bool false, .bool false] 31)) w.heap.size h tt 0 := by
  refine ⟨by simp, fun j hj => ⟨?_, World.frozen?_alloc_at _ _ _ _ rfl⟩⟩
  rw [World.cell?_alloc_at _ _ _ _ rfl]
  exact mA_get h (fun _ => false) j hj
theorem part_step {w : World} {B : Nat} {h : Int} {tt : Nat → Bool} {i : Nat} (hp : Part w B h tt i) (hi : i < 16) : Part (w.setCell ⟨B, 1 + i, none⟩ (.bool (tt i))) B h tt (i + 1) := by
  refine ⟨?_, fun j hj => ⟨?_, by rw [World.frozen?_setCell]; exact (hp.2 j hj).2⟩⟩
  · rw [World.cell?_setCell_other _ _ _ _ (by first | (simp; done) | (simp; omega))]; exact hp.1
  · by_cases e : j = i
    · subst e
      rw [if_pos (by omega)]
      exact World.cell?_setCell_same _ _ _ (hp.2 j hj).1
    · rw [World.cell?_setCell_other _ _ _ _ (by first | (simp; done) | (simp; omega)), (hp.2 j hj).1]
      by_cases hlt : j < i
      · rw [if_pos hlt, if_pos (by omega)]
      · rw [if_neg hlt, if_neg (by omega)]
theorem part_full {w : World} {B : Nat} {h : Int} {tt : Nat → Bool} (hp : Part w B h tt 16) : w.rangeAt B 0 (mL (h, tt)) := by
  intro j v hv
  have hj : j < 17 := by have := (List.getElem?_eq_some_iff.1 hv).1; simpa using this
  by_cases e : j = 0
  · subst e; simp at hv; subst hv; simpa using hp.1
  · obtain ⟨i, rfl⟩ : ∃ i, j = 1 + i := ⟨j - 1, by omega⟩
    have := (hp.2 i (by omega)).1
    rw [if_pos (by omega)] at this
    rw [Nat.zero_add, this]
    have h2 := mA_get h tt i (by omega)
    rw [← h2]
    simpa using hv
theorem Part.keeps {w w' : World} {S : List Nat} {B : Nat} {h : Int} {tt : Nat → Bool} {i : Nat} (hp : Part w B h tt i) (hk : Keeps S w w') (hB : B ∉ S) : Part w' B h tt i :=
  ⟨hk.cell hp.1 hB, fun j hj => ⟨hk.cell (hp.2 j hj).1 hB, (hk.frozen (p := ⟨B, 1 + j, none⟩) (cell_lt (p := ⟨B, 0, none⟩) hp.1) hB).trans (hp.2 j hj).2⟩⟩

theorem St.keepsS {w w' : World} {s hb t bn bm L nh sz : Nat} {od : Ord L} {lim given lb : Int} {V : Int → Option Fun} {S : List Nat} (h : St w s hb t bn bm od nh sz lim given V lb) (hk : Keeps S w w') (hS : ∀ i ∈ [s, hb, t, bn, bm, od.blk], i ∉ S) : St w' s hb t bn bm od nh sz lim given V lb := by
  obtain ⟨N, last, H, hst, r⟩ := h
  exact ⟨N, last, H, hst.keepsB hk hS, r⟩
/-- an append turns none of the store's blocks -/
theorem St.grown {w w' : World} {s hb t bn bm L nh sz : Nat} {od : Ord L} {lim given lb : Int} {V : Int → Option Fun} {row : Option Nat} (h : St w s hb t bn bm od nh sz lim given V lb) (hg : w.grownBy w' row) (hsep : ∀ g, row = some g → g ∉ [s, hb, t, bn, bm, od.blk]) : St w' s hb t bn bm od nh sz lim given V lb := by
  cases row with
  | none => exact h.keeps ((Keeps.refl [] w).grown hg (by simp))
  | some g => exact h.keepsS ((Keeps.refl [g] w).grown hg (by simp)) (fun i hi hin => hsep g rfl (by simp at hin; subst hin; exact hi))

/-- where there is room, a call that makes a function goes well -/
theorem Held1.ok {w w' : World} {s hb t bn bm L nh : Nat} {od : Ord L} {lim given lb : Int} {V : Int → Option Fun} {F : Fun} {e : Ending} (h : Held1 w s hb t bn bm od nh lim given V lb F e w') (hn : nh < 60) (hl : (((nh + 1) * (pw L - 1) : Nat) : Int) ≤ lim) :
    e = .returned (.tuple #[.int .i64 (given + 1), .int .i64 0]) ∧ (∃ sz, St w' s hb t bn bm od (nh + 1) sz lim (given + 1) (addV V (given + 1) F) (lb + 100000)) ∧ Keeps [s, hb, t, bn, bm, od.blk] w w' := by
  rcases h with ⟨h, _⟩ | ⟨_, sz2, hsz, hk, h⟩
  · omega
  · rcases h with ⟨_, h1, h2⟩ | ⟨h1, _⟩
    · exact ⟨h1, ⟨sz2, h2⟩, hk.mono (fun i hi => by simp at hi ⊢; omega)⟩
    · omega
theorem St.lts {w : World} {s hb t bn bm L nh sz : Nat} {od : Ord L} {lim given lb : Int} {V : Int → Option Fun} (h : St w s hb t bn bm od nh sz lim given V lb) : ∀ i ∈ [s, hb, t, bn, bm, od.blk], i < w.heap.size := by
  obtain ⟨N, last, H, hst, _⟩ := h
  exact hst.lts

set_option maxRecDepth 100000 in
set_option maxHeartbeats 2000000 in
theorem begun_any {w : World} :
    Calls Try.prog 9 #[] w fun e w' => ∃ s hb t bn bm, ∃ od : Ord 4, ∃ sz v ms V, e = .returned (.tuple #[.pointer (some ⟨s, 0, none⟩), v]) ∧ (∀ k, od.at_ k = k) ∧ St w' s hb t bn bm od 4 sz 2000 4 V 500000 ∧ Good V ms ∧ ms.length = 4 ∧ w'.ownsRow w.heap.size 31 17 v 4 (flat ms) ∧ (∀ g, v.ownBlock = some g → g ∉ [s, hb, t, bn, bm, od.blk]) ∧
      Keeps [] w w' ∧ w.heap.size ≤ s ∧ w.heap.size ≤ hb ∧ w.heap.size ≤ t ∧ w.heap.size ≤ bn ∧ w.heap.size ≤ bm ∧ w.heap.size ≤ od.blk := by
  obtain ⟨i0, hi0, hz0, hz1, hz2⟩ := info_parts info34
  have hml : 100 < maxLen := by decide
  go_enter Try.func9, Try.ntmps9
  go_wp2_with fail
  refine (new_bad (v := 9) (l := 5) (by omega)).mono ?_
  rintro e w1 ⟨rfl, hk1⟩
  go_wp2_with fail
  refine (new_good (L := 4) (l := 2000) (by omega) (by omega) (by omega) (by omega)).mono ?_
  rintro e w2 ⟨s, hb, t, bn, bm, ob, cap, rfl, hS2, hk2, j1, j2, j3, j4, j5, j60⟩
  obtain ⟨od, hod, hblk, hS2⟩ : ∃ od : Ord 4, (∀ k, od.at_ k = k) ∧ od.blk = ob ∧ St w2 s hb t bn bm od 0 0 2000 0 (fun _ => none) 1 := ⟨Ord.first 4 ob cap, fun _ => rfl, rfl, hS2⟩
  have j6 : w1.heap.size ≤ od.blk := by rw [hblk]; exact j60
  clear j60 hblk
  have hk12 := hk1.trans hk2
  have hsz1 := hk1.size
  go_wp2_with fail
  go_loopw [6, 7] (fun v x wr => ∃ (k : Nat) (ms : List Md) (V : Int → Option Fun) (sz : Nat), k ≤ 4 ∧ x = .int .i64 k ∧ St wr s hb t bn bm od k sz 2000 k V (1 + 100000 * k) ∧ Good V ms ∧ ms.length = k ∧ wr.ownsRow w.heap.size 31 17 v k (flat ms) ∧ (∀ g, v.ownBlock = some g → g ∉ [s, hb, t, bn, bm, od.blk]) ∧ Keeps [] w wr)
    (fun _ x _ => 4 - (intOf x).toNat)
  case atStart => exact ⟨0, [], fun _ => none, 0, by omega, rfl, hS2, fun j hj => by simp at hj, rfl, World.ownsRow_nil _ _ _ _, fun g hg => by simp [Value.ownBlock] at hg, hk12⟩
  case round =>
    obtain ⟨k, ms, V, sz, hk4, rfl, hS, hG, hml4, hown, hsep, hwk⟩ := hrel
    by_cases hlt : k < 4
    · have hk0 : (0 : Int) ≤ (k : Int) := by omega
      have hk1' : (k : Int) < 4 := by omega
      have hGH : Hid (Good V ms) := hG
      have hml' : Hid (ms.length = k) := hml4
      clear hG hml4
      go_wp2_with fail
      refine (variable_any (i := (k : Int)) hS hk0 (by simpa using hk1') (by omega) (by omega)).mono ?_
      intro e w3 hh
      obtain ⟨rfl, ⟨sz3, hS3⟩, hk3⟩ := hh.ok (by omega) (by simp [pw]; omega)
      clear hh
      have hl3 := hS3.lts
      have hbase3 : w.heap.size ≤ w3.heap.size := Nat.le_trans hwk.size hk3.size
      have hp0 := part_start w3 ((k : Int) + 1) (fun j => dig j k)
      go_wp2_with fail
      obtain ⟨W4, hW4⟩ : ∃ W4, W4 = w3.alloc (.cells #[.int .i64 ((k : Int) + 1), .bool false, .bool false, .bool false, .bool false, .bool false, .bool false, .bool false, .bool false, .bool false, .bool false, .bool false, .bool false, .bool false, .bool false, .bool false, .bool false] 31) := ⟨_, rfl⟩
      rw [← hW4] at hp0 ⊢
      have hk4' : Keeps [] w3 W4 := by rw [hW4]; exact (Keeps.refl _ _).alloc _
      have hs4 : W4.heap.size = w3.heap.size + 1 := by rw [hW4]; simp
      clear hW4
      go_loopw [11] (fun y wq => ∃ i : Nat, i ≤ 16 ∧ y = .int .i64 i ∧ Part wq w3.heap.size ((k : Int) + 1) (fun j => dig j k) i ∧ Keeps [w3.heap.size] W4 wq) (fun y _ => 16 - (intOf y).toNat)
      case atStart => exact ⟨0, by omega, rfl, hp0, Keeps.refl _ _⟩
      case round =>
        obtain ⟨i, hi, rfl, hp, hkq⟩ := hrel
        by_cases hlti : i < 16
        · have hi0 : (0 : Int) ≤ (i : Int) := by omega
          have hi1 : (i : Int) < 16 := by omega
          have p1 := (hp.2 i hlti).1
          have p2 := (hp.2 i hlti).2
          rw [if_neg (by omega)] at p1
          go_wp2_with (first
            | (go_at_call 21; refine (bit_any hlti hlt).mono ?_; rintro e w5 ⟨rfl, rfl⟩)
            | fail)
          go_roundw
          case rel => exact ⟨i + 1, by omega, by go_num, part_step hp hlti, hkq.setCell _ (Or.inl (by simp)) _⟩
          case measure => simp [intOf]; omega
        · have e : i = 16 := by omega
          subst e
          have hkq' : Keeps [] w3 wr := ((hk4'.mono (by simp)).trans hkq).strike (by simp)
          have hownq : wr.ownsRow w.heap.size 31 17 u6 k (flat ms) := ownsRow_keeps (ownsRow_keeps hown hk3 hsep) hkq' (by simp)
          have hrange := part_full hp
          have hqs : w3.heap.size + 1 ≤ wr.heap.size := by have := hkq.size; omega
          have hbq : w.heap.size ≤ wr.heap.size := by omega
          clear hp hp0
          go_wp2_with (first
            | (refine wpList_load_mid rfl 31 _ rfl w3.heap.size 0 rfl (mL ((k : Int) + 1, fun j => dig j k)) _ hrange Try.underlying31 rfl size34 ?_)
            | (at_builtin; refine wpList_append_own_at _ rfl _ _ 24 rfl w.heap.size 31 i0 _ 17 24 Try.underlying24 hi0 hz0 hz1 hz2 rfl (by decide) u6 k (flat ms) rfl (hownq.alloc _) ⟨wr.heap.size, 0, none⟩ 1 1 (mL ((k : Int) + 1, fun j => dig j k)) rfl rfl (cells_new _ _ _) (by simp [Value.oneCell']) (by omega) (by omega) (by simp; omega) ?_; intro v' w5 hown' hgrow hnil hloc)
            | fail)
          go_roundw
          case rel =>
            have hm := hml'.out
            refine ⟨k + 1, ms ++ [((ms.length : Int) + 1, fun j => dig j k)], addV V ((ms.length : Int) + 1) (fun a => a (k : Int)), sz3, by omega, by go_num, ?_, good_add hGH.out (fun i _ => rfl) (fun _ => by rw [hm]), by simp [hm], ?_, ?_, ?_⟩
            · have e1 : ((1 : Int) + 100000 * ((k + 1 : Nat) : Int)) = 1 + 100000 * (k : Int) + 100000 := by omega
              have e2 : (((k + 1 : Nat)) : Int) = (k : Int) + 1 := by omega
              rw [e1, e2, hm]
              exact (hS3.keeps (hkq'.alloc _)).grown hgrow hsep
            · rw [flat_snoc, hm]; exact hown'
            · intro g hg
              rcases hloc with e | e
              · rw [e] at hg; exact hsep g hg
              · rw [e] at hg
                cases hg
                intro hin
                have := hl3 _ hin
                simp at this
                omega
            · have q : Keeps [] w wr := ((hwk.mono (by simp)).trans (hk3.trans (hkq'.mono (by simp)))).strike (by simp; omega)
              exact (q.alloc _).grown hgrow (fun g hg => Or.inr (hownq.lt g hg).1)
          case measure => simp [intOf]; omega
    · have e : k = 4 := by omega
      subst e
      go_wp2_with fail
      go_ret2
      refine ⟨s, hb, t, bn, bm, od, sz, u6, ms, V, rfl, hod, ?_, hG, hml4, hown, hsep, hwk, by omega, by omega, by omega, by omega, by omega, by omega⟩
      obtain ⟨N, last, H, z1, z2, z3, z4, z5, z6, z7⟩ := hS
      exact ⟨N, last, H, z1, z2, z3, by omega, z5, z6, z7⟩

end Go.Proofs.Ytmgjegokkbghlaa
