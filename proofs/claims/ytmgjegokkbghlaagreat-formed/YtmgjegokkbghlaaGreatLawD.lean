/- keepTruths: a list that was lent or came out is written full, and held. keepTruths: the walk. A pair of stores more: begin. -/
import Derived.Test.YtmgjegokkbghlaaGreatLawA
import Derived.Maps.AppendAt
namespace Go.Proofs.YtmgjegokkbghlaaGreat
open Go.RowKit Go.Maps Bdd
set_option linter.unusedVariables false
attribute [local go_sem ↓] Go.wp_at_zero Go.wp_at_succ

/-- a block of that type -/
def Of (w : World) (g : Nat) (e : TypeId) : Prop := ∃ cur, w.heap[g]? = some (.cells cur e (0, 0))
theorem Of.ne {w : World} {g g' : Nat} {e e' : TypeId} (h : Of w g e) (h' : Of w g' e') (hn : e ≠ e') : g ≠ g' := by
  rintro rfl
  obtain ⟨c, h⟩ := h
  obtain ⟨c', h'⟩ := h'
  rw [h] at h'
  simp at h'
  exact hn h'.2
theorem Of.keeps {w w' : World} {g : Nat} {e : TypeId} {S : List Nat} (h : Of w g e) (hk : Keeps S w w') (hg : g ∉ S) : Of w' g e := by
  obtain ⟨c, h⟩ := h
  exact ⟨c, by rw [hk.block g (Array.getElem?_eq_some_iff.1 h).1 hg]; exact h⟩
theorem row_of {w : World} {base : Nat} {e : TypeId} {size : Nat} {v : Value} {n : Nat} {xs : List Value} (h : w.ownsRow base e size v n xs) : ∀ g, v.ownBlock = some g → Of w g e := by
  intro g hg
  rcases h.2 with ⟨rfl, _⟩ | ⟨g', cap, cur, rfl, _, hh, _⟩
  · cases hg
  · have : g' = g := by have : some g' = some g := hg; simpa using this
    subst this
    exact ⟨cur, hh⟩
theorem rows_apart {w : World} {b1 b2 : Nat} {e1 e2 : TypeId} {s1 s2 n1 n2 : Nat} {v1 v2 : Value} {x1 x2 : List Value} (h1 : w.ownsRow b1 e1 s1 v1 n1 x1) (h2 : w.ownsRow b2 e2 s2 v2 n2 x2) (hn : e1 ≠ e2) : ∀ g, v1.ownBlock = some g → v2.ownBlock ≠ some g :=
  fun g hg hg' => (row_of h1 g hg).ne (row_of h2 g hg') hn rfl

/-- a hold on the way: the list l of k places is written full; us: the lists so far -/
structure KT (w : World) (B : Nat) (x : Value) (e4 e32 : TypeId) (vo : Option Nat) (slot : Nat) (C : Nat → Option Value) (base k : Nat) (l tv : Value) (us : List Value) (wr : World) : Prop where
  hl : wr.ownsRow base e4 1 l k (List.replicate k x)
  c1 : wr.cell? ⟨B, slot, none⟩ = some tv
  fr : ∀ j, wr.frozen? ⟨B, j, none⟩ = false
  ht : wr.ownsRow (B + 1) e32 1 tv us.length us
  hu : ∀ u ∈ us, ∃ a n cap, u = .slice a n cap ∧ n ≤ k ∧ (n = 0 ∨ ∃ g, a = some ⟨g, 0, none⟩ ∧ (g < B → vo = some g) ∧ g ≠ B ∧ Of wr g e4 ∧ ∀ i, i < n → wr.cell? ⟨g, i, none⟩ = some x)
  lo : ∀ g, l.ownBlock = some g → (g < B → vo = some g) ∧ g ≠ B
  kp : Keeps vo.toList w wr
  cs : ∀ j v, j ≠ slot → C j = some v → wr.cell? ⟨B, j, none⟩ = some v

section
variable {w wr w2 : World} {B base k slot : Nat} {x : Value} {e4 e32 : TypeId} {vo : Option Nat} {C : Nat → Option Value} {l tv : Value} {us : List Value}
theorem KT.keeps {S : List Nat} (h : KT w B x e4 e32 vo slot C base k l tv us wr) (hk : Keeps S wr w2) (hS : ∀ i ∈ S, w.heap.size ≤ i ∨ vo = some i) (hB : B ∉ S) (hB2 : B < wr.heap.size) (hl' : ∀ g, l.ownBlock = some g → g ∉ S) (ht' : ∀ g, tv.ownBlock = some g → g ∉ S) (hu' : ∀ g, Of wr g e4 → g ∉ S) : KT w B x e4 e32 vo slot C base k l tv us w2 := by
  refine ⟨row_keeps h.hl hk hl', hk.cell h.c1 hB, fun j => (hk.frozen (p := ⟨B, j, none⟩) hB2 hB).trans (h.fr j), row_keeps h.ht hk ht', fun u hin => ?_, h.lo, ?_, fun j v hj hc => hk.cell (h.cs j v hj hc) hB⟩
  · obtain ⟨a, n, cap, e, hn, hc⟩ := h.hu u hin
    refine ⟨a, n, cap, e, hn, ?_⟩
    rcases hc with h0 | ⟨g, ea, g1, g2, g3, g4⟩
    · exact Or.inl h0
    · exact Or.inr ⟨g, ea, g1, g2, g3.keeps hk (hu' g g3), fun i hi => hk.cell (g4 i hi) (hu' g g3)⟩
  · refine (((h.kp.mono (S' := vo.toList ++ S) (by simp +contextual)).trans (hk.mono (by simp +contextual)))).strike (fun i hi hlt => ?_)
    rcases List.mem_append.1 hi with hi | hi
    · exact hi
    · rcases hS i hi with e | e
      · omega
      · simp [e]
theorem KT.alloc (h : KT w B x e4 e32 vo slot C base k l tv us wr) (hB2 : B < wr.heap.size) (o : Obj) : KT w B x e4 e32 vo slot C base k l tv us (wr.alloc o) :=
  h.keeps (S := []) ((Keeps.refl _ _).alloc _) (by simp) (by simp) hB2 (by simp) (by simp) (by simp)
/-- the list has grown -/
theorem KT.growL {g cap : Nat} (h : KT w B x e4 e32 vo slot C base k l tv us wr) (hne : e4 ≠ e32) (hB2 : B < wr.heap.size) (hBw : w.heap.size ≤ B) (hown : w2.ownsRow base e4 1 (.slice (some ⟨g, 0, none⟩) (k + 1) cap) (k + 1) (List.replicate k x ++ [x])) (hat : (l.ownBlock = some g ∧ wr.grownBy w2 (some g)) ∨ (g = wr.heap.size ∧ wr.grownBy w2 none)) :
    KT w B x e4 e32 vo slot C base (k + 1) (.slice (some ⟨g, 0, none⟩) (k + 1) cap) tv us w2 := by
  have hown' : w2.ownsRow base e4 1 (.slice (some ⟨g, 0, none⟩) (k + 1) cap) (k + 1) (List.replicate (k + 1) x) := by rw [List.replicate_succ']; exact hown
  have hcell : ∀ i, i < k + 1 → w2.cell? ⟨g, i, none⟩ = some x := fun i hi => by rw [World.ownsRow.cellAt hown' i (by omega)]; simp [hi]
  have hof : Of w2 g e4 := row_of hown' g rfl
  have hlt : ∀ g', tv.ownBlock = some g' → g' ≠ B := fun g' e => by have := (h.ht.lt g' e).1; omega
  rcases hat with ⟨e, hg⟩ | ⟨e, hg⟩
  · have hk : Keeps [g] wr w2 := (Keeps.refl _ _).grown hg (by simp)
    obtain ⟨l1, l2⟩ := h.lo g e
    have htg : ∀ g', tv.ownBlock = some g' → g' ∉ [g] := fun g' e' hin => by
      simp at hin
      subst hin
      exact (row_of h.hl g' e).ne (row_of h.ht g' e') hne rfl
    refine ⟨hown', hk.cell h.c1 (by simp; exact fun e => l2 e.symm), fun j => (hk.frozen (p := ⟨B, j, none⟩) hB2 (by simp; exact fun e => l2 e.symm)).trans (h.fr j), row_keeps h.ht hk htg, fun u hin => ?_, fun g' e' => ?_, ?_, fun j v hj hc => hk.cell (h.cs j v hj hc) (by simp; exact fun e => l2 e.symm)⟩
    · obtain ⟨a, n, cap', e1, hn, hc⟩ := h.hu u hin
      refine ⟨a, n, cap', e1, by omega, ?_⟩
      rcases hc with h0 | ⟨g', ea, g1, g2, g3, g4⟩
      · exact Or.inl h0
      · refine Or.inr ⟨g', ea, g1, g2, ?_, fun i hi => ?_⟩
        · by_cases eg : g' = g
          · rw [eg]; exact hof
          · exact g3.keeps hk (by simpa using eg)
        · by_cases eg : g' = g
          · rw [eg]; exact hcell i (by omega)
          · exact hk.cell (g4 i hi) (by simpa using eg)
    · have : g = g' := by have : some g = some g' := e'; simpa using this
      subst this
      exact ⟨l1, l2⟩
    · refine ((h.kp.mono (S' := vo.toList ++ [g]) (by simp +contextual)).trans (hk.mono (by simp))).strike (fun i hi hi2 => ?_)
      simp only [List.mem_append, List.mem_singleton] at hi
      rcases hi with hi | hi
      · exact hi
      · subst hi
        have := l1 (by omega)
        simp [this]
  · have hk : Keeps [] wr w2 := (Keeps.refl _ _).grown hg (by simp)
    have h' := h.keeps hk (by simp) (by simp) hB2 (by simp) (by simp) (by simp)
    refine ⟨hown', h'.c1, h'.fr, h'.ht, fun u hin => ?_, fun g' e' => ?_, h'.kp, h'.cs⟩
    · obtain ⟨a, n, cap', e1, hn, hc⟩ := h'.hu u hin
      exact ⟨a, n, cap', e1, by omega, hc⟩
    · have : g = g' := by have : some g = some g' := e'; simpa using this
      subst this
      exact ⟨fun hl => by omega, by omega⟩
/-- the list is set down among the others -/
theorem KT.growT {a : Option Addr} {cap : Nat} {tv' : Value} (h : KT w B x e4 e32 vo slot C base k (.slice a k cap) tv us wr) (hne : e4 ≠ e32) (hB2 : B < wr.heap.size) (hBw : w.heap.size ≤ B) (hown : w2.ownsRow (B + 1) e32 1 tv' (us.length + 1) (us ++ [.slice a k cap])) (hg : wr.grownBy w2 tv.ownBlock) :
    KT w B x e4 e32 vo slot C base k (.slice a k cap) tv' (us ++ [.slice a k cap]) (w2.setCell ⟨B, slot, none⟩ tv') := by
  have hk : Keeps tv.ownBlock.toList wr w2 := (Keeps.refl _ _).grown hg (fun j hj => Or.inl (by simp [hj]))
  have htB : ∀ g, tv.ownBlock = some g → B + 1 ≤ g := fun g e => (h.ht.lt g e).1
  have hBn : B ∉ tv.ownBlock.toList := fun hin => by have := htB B (by simpa using hin); omega
  have hap : ∀ g, Of wr g e4 → g ∉ tv.ownBlock.toList := fun g hof hin => hof.ne (row_of h.ht g (by simpa using hin)) hne rfl
  have hk2 : Keeps (B :: tv.ownBlock.toList) wr (w2.setCell ⟨B, slot, none⟩ tv') := (hk.mono (fun i hi => List.mem_cons_of_mem _ hi)).setCell ⟨B, slot, none⟩ (Or.inl (by simp)) _
  have hlB : ∀ g, (Value.slice a k cap).ownBlock = some g → g ∉ B :: tv.ownBlock.toList := fun g e hin => by
    rcases List.mem_cons.1 hin with e' | hin
    · exact (h.lo g e).2 e'
    · exact hap g (row_of h.hl g e) hin
  refine ⟨row_keeps h.hl hk2 hlB, World.cell?_setCell_same _ _ _ (hk.cell h.c1 hBn), fun j => by rw [World.frozen?_setCell]; exact (hk.frozen (p := ⟨B, j, none⟩) hB2 hBn).trans (h.fr j), ?_, fun u hin => ?_, h.lo, ?_, fun j v hj hc => by rw [World.cell?_setCell_other _ _ _ _ (by intro e; injection e; omega)]; exact hk.cell (h.cs j v hj hc) hBn⟩
  · rw [List.length_append]
    exact ownsRow_setCell_other hown (fun e => by have := (hown.lt B e).1; omega) _
  · rcases List.mem_append.1 hin with hin | hin
    · obtain ⟨a', n, cap', e1, hn, hc⟩ := h.hu u hin
      refine ⟨a', n, cap', e1, hn, ?_⟩
      rcases hc with h0 | ⟨g, ea, g1, g2, g3, g4⟩
      · exact Or.inl h0
      · have hgS : g ∉ B :: tv.ownBlock.toList := fun hin => by
          rcases List.mem_cons.1 hin with e' | hin
          · exact g2 e'
          · exact hap g g3 hin
        exact Or.inr ⟨g, ea, g1, g2, g3.keeps hk2 hgS, fun i hi => hk2.cell (g4 i hi) hgS⟩
    · simp at hin
      subst hin
      refine ⟨a, k, cap, rfl, Nat.le_refl _, ?_⟩
      rcases h.hl.2 with ⟨e, h0⟩ | ⟨g, cap', cur, e, hb, hh, rest⟩
      · exact Or.inl h0
      · simp at e
        obtain ⟨rfl, rfl⟩ := e
        have hgS := hlB g rfl
        obtain ⟨l1, l2⟩ := h.lo g rfl
        refine Or.inr ⟨g, rfl, l1, l2, (row_of h.hl g rfl).keeps hk2 hgS, fun i hi => hk2.cell ?_ hgS⟩
        rw [World.ownsRow.cellAt h.hl i (by omega)]
        simp [hi]
  · refine ((h.kp.mono (S' := vo.toList ++ (B :: tv.ownBlock.toList)) (by simp +contextual)).trans (hk2.mono (by simp +contextual))).strike (fun i hi hi2 => ?_)
    simp only [List.mem_append, List.mem_cons] at hi
    rcases hi with hi | hi | hi
    · exact hi
    · omega
    · have := htB i (by simpa using hi); omega
end

theorem infoLists : (Tryz.prog.info? 32).map (fun i => (i.zero, i.size, i.bytes)) = some (some (.slice none 0 0), 1, 24) := by kernel_rfl
theorem infoHoldP : (Tryz.prog.info? 51).map (fun i => (i.zero, i.size, i.bytes)) = some (some (.pointer none), 1, 8) := by kernel_rfl
theorem rowB_same (k : Nat) (b : Bool) : rowB k (fun _ => b) = List.replicate k (.bool b) := by
  unfold rowB
  rw [List.map_const', List.length_range]

/-- the last step of a hold: it is set down among the others -/
theorem WX.hold {Q : Nat → Prop} {w0 w w8 w9 : World} {own : Own} {W K : Nat} {ps : List Pr} {hs : List Nat} {hv hv' x tv : Value} {e4 e32 : TypeId} {vo : Option Nat} {slot base k : Nat} {C : Nat → Option Value} {l : Value} {us : List Value} (hW : WX Q w0 w own W ps hs K) (hvo : ∀ g, vo = some g → own g = (0, 0))
    (q1 : w.cell? ⟨W, 1, none⟩ = some hv) (q2 : w.ownsRow 0 51 1 hv hs.length (hs.map ptr)) (q3 : hv.ownBlock ≠ some W) (q4 : ∀ g, hv.ownBlock = some g → own g = (1, 0))
    (h4 : e4 ≠ 51) (h32 : e32 ≠ 51)
    (hT : KT w w.heap.size x e4 e32 vo slot C base k l tv us w8) (hus : us.length ≤ 9) (hkb : k ≤ 140737488355328) (hB2 : w.heap.size < w8.heap.size) (hown : w9.ownsRow 0 51 1 hv' (hs.length + 1) (hs.map ptr ++ [ptr w.heap.size])) (hg : w8.grownBy w9 hv.ownBlock) (hat : hv'.ownBlock = hv.ownBlock ∨ ∃ g, hv'.ownBlock = some g ∧ w8.heap.size ≤ g)
    (hok : ∀ (own' : Own), own' w.heap.size = (5, hs.length) → (∀ j v, j ≠ slot → C j = some v → (w9.setCell ⟨W, 1, none⟩ hv').cell? ⟨w.heap.size, j, none⟩ = some v) → (w9.setCell ⟨W, 1, none⟩ hv').cell? ⟨w.heap.size, slot, none⟩ = some tv → ListC (w9.setCell ⟨W, 1, none⟩ hv') own' (5, hs.length) tv x → HoldOk (w9.setCell ⟨W, 1, none⟩ hv') own' (5, hs.length) w.heap.size) :
    ∃ own', WX Q w0 (w9.setCell ⟨W, 1, none⟩ hv') own' W ps (hs ++ [w.heap.size]) (K + 1) ∧ (∀ (p : Addr) (u : Value), own p.block ≠ (1, 0) → vo ≠ some p.block → w.cell? p = some u → (w9.setCell ⟨W, 1, none⟩ hv').cell? p = some u) ∧ Onlys own (fun y => y = (0, 0) ∨ y = (1, 0)) w (w9.setCell ⟨W, 1, none⟩ hv') ∧ ∀ b tg, b < w.heap.size → tg ≠ (0, 0) → own b = tg → own' b = tg := by
  obtain ⟨B, hB⟩ : ∃ B, B = w.heap.size := ⟨_, rfl⟩
  rw [← hB] at hT hB2 hown hok ⊢
  obtain ⟨w', hw'⟩ : ∃ w', w' = w9.setCell ⟨W, 1, none⟩ hv' := ⟨_, rfl⟩
  rw [← hw'] at hok ⊢
  have hWl : W < B := by rw [hB]; exact hW.lt
  have hk9 : Keeps hv.ownBlock.toList w8 w9 := (Keeps.refl _ _).grown hg (fun j hj => Or.inl (by simp [hj]))
  have hk' : Keeps (W :: hv.ownBlock.toList) w8 w' := by rw [hw']; exact (hk9.mono (fun i hi => List.mem_cons_of_mem _ hi)).setCell ⟨W, 1, none⟩ (Or.inl (by simp)) _
  have hkw : Keeps (vo.toList ++ W :: hv.ownBlock.toList) w w' := (hT.kp.mono (by simp +contextual)).trans (hk'.mono (by simp +contextual))
  have hvl : ∀ g, hv.ownBlock = some g → g < B := fun g e => by rw [hB]; exact (q2.lt g e).2
  let T : Tag → Prop := fun y => y = (0, 0) ∨ y = (1, 0)
  have hT0 : ∀ y, y ≠ (0, 0) → y ≠ (1, 0) → ¬ T y := fun y h1 h2 h => h.elim h1 h2
  have hon : Onlys own T w w' := ⟨_, hkw, fun b hb => by
    simp only [List.mem_append, Option.mem_toList, List.mem_cons] at hb
    rcases hb with hb | hb | hb
    · exact Or.inl (Or.inl (hvo b hb))
    · exact Or.inl (Or.inr (by rw [hb]; exact hW.ow))
    · exact Or.inl (Or.inr (q4 b hb))⟩
  obtain ⟨own', hown'⟩ : ∃ own' : Own, own' = fun b => if b < B then (if own b = (0, 0) then (5, hs.length) else own b) else if hv'.ownBlock = some b then (1, 0) else (5, hs.length) := ⟨_, rfl⟩
  have o1 : ∀ b tg, b < w.heap.size → tg ≠ (0, 0) → own b = tg → own' b = tg := fun b tg hb hne e => by
    rw [hown']
    simp only
    rw [if_pos (by omega), if_neg (by rw [e]; exact hne), e]
  have o2 : ∀ b, b < B → own b = (0, 0) → own' b = (5, hs.length) := fun b hb e => by
    rw [hown']
    simp only
    rw [if_pos hb, if_pos e]
  have o3 : ∀ b, B ≤ b → hv'.ownBlock ≠ some b → own' b = (5, hs.length) := fun b hb e => by
    rw [hown']
    simp only
    rw [if_neg (by omega), if_neg e]
  obtain ⟨pv, p1, p2, p3, p4⟩ := hW.c0
  have hdiff : (44 : TypeId) ≠ 51 := by decide
  have npv : ∀ g, pv.ownBlock = some g → g ∉ vo.toList ++ W :: hv.ownBlock.toList := fun g e hin => by
    simp only [List.mem_append, Option.mem_toList, List.mem_cons] at hin
    rcases hin with hin | hin | hin
    · have h1 := hvo g hin
      rw [p4 g e] at h1
      simp at h1
    · exact p3 (by rw [e, hin])
    · exact rows_apart p2 q2 hdiff g e hin
  have nW : W ∉ vo.toList := fun hin => by
    have h1 := hvo W (by simpa using hin)
    rw [hW.ow] at h1
    simp at h1
  have nW2 : W ∉ hv.ownBlock.toList := by simpa using q3
  have hc9 : ∀ j v, w.cell? ⟨W, j, none⟩ = some v → w9.cell? ⟨W, j, none⟩ = some v := fun j v hc => hk9.cell (hT.kp.cell hc nW) nW2
  have hW2 := hW.lt
  have hvW : hv'.ownBlock ≠ some W := by
    rcases hat with e | ⟨g, e, hgl⟩
    · rw [e]; exact q3
    · rw [e]; intro e2; simp at e2; omega
  have hof9 : ∀ g, Of w8 g e4 → Of w' g e4 ∨ g = W ∨ hv.ownBlock = some g := fun g h => by
    by_cases e1 : g = W
    · exact Or.inr (Or.inl e1)
    · by_cases e2 : hv.ownBlock = some g
      · exact Or.inr (Or.inr e2)
      · exact Or.inl (h.keeps hk' (by simp [e1, e2]))
  have hownw' : w'.ownsRow 0 51 1 hv' (hs.length + 1) (hs.map ptr ++ [ptr B]) := by rw [hw']; exact ownsRow_setCell_other hown hvW _
  have hv'of : ∀ g, hv'.ownBlock = some g → Of w' g 51 := row_of hownw'
  have hv8of : ∀ g, hv.ownBlock = some g → Of w8 g 51 := fun g e => (row_of q2 g e).keeps hT.kp (fun hin => by
    have h1 := hvo g (by simpa using hin)
    rw [q4 g e] at h1
    simp at h1)
  have hlist : ListC w' own' (5, hs.length) tv x := by
    have htB : ∀ g, tv.ownBlock = some g → B + 1 ≤ g := fun g e => (hT.ht.lt g e).1
    have htS : ∀ g, tv.ownBlock = some g → g ∉ W :: hv.ownBlock.toList := fun g e hin => by
      have h1 := htB g e
      rcases List.mem_cons.1 hin with e' | hin
      · omega
      · have := hvl g (by simpa using hin); omega
    have htw' := row_keeps hT.ht hk' htS
    obtain ⟨a, n, cap, e, hn, hcs⟩ : ∃ a n cap, tv = .slice a n cap ∧ n = us.length ∧ (n = 0 ∨ ∃ g, a = some ⟨g, 0, none⟩) := by
      rcases hT.ht.2 with ⟨e, h0⟩ | ⟨g, cap, cur, e, _⟩
      · exact ⟨none, 0, 0, e, h0.symm, Or.inl rfl⟩
      · exact ⟨_, _, cap, e, rfl, Or.inr ⟨g, rfl⟩⟩
    refine ⟨a, n, cap, e, by omega, ?_⟩
    rcases hcs with h0 | ⟨g, ea⟩
    · exact Or.inl h0
    · subst ea
      subst e
      refine Or.inr ⟨g, rfl, o3 g (by have := htB g rfl; omega) (fun e => (hv'of g e).ne (row_of htw' g rfl) (fun e => h32 e.symm) rfl), fun i hi => ?_⟩
      have hi2 : i < us.length := by omega
      refine ⟨us[i], ?_, ?_⟩
      · rw [hn] at htw'
        rw [World.ownsRow.cellAt htw' i (by omega)]
        simp [hi2]
      · obtain ⟨a', n', cap', e', hn', hc⟩ := hT.hu us[i] (List.getElem_mem hi2)
        refine ⟨a', n', cap', e', by omega, ?_⟩
        rcases hc with h0 | ⟨g', ea', g1, g2, g3, g4⟩
        · exact Or.inl h0
        · have gW : g' ≠ W := by
            intro e
            have h1 := hvo g' (g1 (by omega))
            rw [e, hW.ow] at h1
            simp at h1
          have gv : hv.ownBlock ≠ some g' := fun e => g3.ne (hv8of g' e) h4 rfl
          have gS : g' ∉ W :: hv.ownBlock.toList := by simp [gW, gv]
          have gof := g3.keeps hk' gS
          refine Or.inr ⟨g', ea', ?_, fun i hi => hk'.cell (g4 i hi) gS⟩
          by_cases hl : g' < B
          · exact o2 g' hl (hvo g' (g1 hl))
          · exact o3 g' (by omega) (fun e => (hv'of g' e).ne gof (fun e => h4 e.symm) rfl)
  have oB : own' B = (5, hs.length) := o3 B (Nat.le_refl _) (fun e => by
    rcases hat with e2 | ⟨g, e2, hgl⟩
    · rw [e2] at e; have := hvl B e; omega
    · rw [e2] at e; simp at e; omega)
  refine ⟨own', ⟨low_keeps hW.low hW.mine hon (hT0 _ (by simp) (by simp)), fun b hb => o1 b _ (by have := hW.low.size; omega) (by simp) (hW.mine b hb), o1 W _ hW2 (by simp) hW.ow, fun j => ?_, ⟨pv, ?_, row_keeps p2 hkw npv, p3, fun g hg => o1 g _ (p2.lt g hg).2 (by simp) (p4 g hg)⟩, ⟨hv', ?_, ?_, hvW, fun g hg' => ?_⟩, ?_, fun i y hi hy => ?_, fun j y hy => ?_, Nat.le_succ_of_le hW.kp, by simp; exact hW.kh⟩, fun p u n1 n2 hc => hkw.cell hc (fun hin => ?_), hon, fun b tg hb => o1 b tg (by rw [← hB]; exact hb)⟩
  · rw [hw', World.frozen?_setCell, hk9.frozen (p := ⟨W, j, none⟩) (by show W < _; omega) nW2, hT.kp.frozen (p := ⟨W, j, none⟩) hW2 nW]
    exact hW.fr j
  · rw [hw', World.cell?_setCell_other _ _ _ _ (by simp)]
    exact hc9 0 _ p1
  · rw [hw']
    exact World.cell?_setCell_same _ _ _ (hc9 1 _ q1)
  · have e1 : (hs ++ [B]).length = hs.length + 1 := by simp
    have e2 : (hs ++ [B]).map ptr = hs.map ptr ++ [ptr B] := by simp
    rw [e1, e2]
    exact hownw'
  · rcases hat with e | ⟨g2, e, hgl⟩
    · rw [e] at hg'
      exact o1 g _ (q2.lt g hg').2 (by simp) (q4 g hg')
    · have e3 : g2 = g := by rw [e] at hg'; simpa using hg'
      subst e3
      rw [hown']
      simp only
      rw [if_neg (by omega), if_pos hg']
  · rw [hw', World.cell?_setCell_other _ _ _ _ (by simp)]
    exact hc9 2 _ hW.c2
  · exact ((hW.prs i y hi hy).frame hon (hT0 _ (by simp) (by simp)) (hT0 _ (by simp) (by simp)) (hT0 _ (by simp) (by simp)) (fun b hb e => o1 b _ hb (by simp) e) (fun b hb e => o1 b _ hb (by simp) e) (fun b hb e => o1 b _ hb (by simp) e)).wider (by omega)
  · by_cases hj : j < hs.length
    · rw [List.getElem?_append_left hj] at hy
      exact (hW.hds j y hy).frame hon (hT0 _ (by simp) (by simp)) (fun b hb e => o1 b _ hb (by simp) e)
    · rw [List.getElem?_append_right (by omega)] at hy
      have hj2 : j = hs.length := by
        have : j - hs.length < 1 := by
          false_or_by_contra
          rename_i hc
          rw [List.getElem?_eq_none (by simp; omega)] at hy
          cases hy
        omega
      subst hj2
      simp at hy
      subst hy
      have nB : B ∉ W :: hv.ownBlock.toList := fun hin => by
        rcases List.mem_cons.1 hin with e | hin
        · omega
        · have := hvl B (by simpa using hin); omega
      exact hok own' oB (fun j v hj hc => hk'.cell (hT.cs j v hj hc) nB) (hk'.cell hT.c1 nB) hlist
  · simp only [List.mem_append, Option.mem_toList, List.mem_cons] at hin
    rcases hin with hin | hin | hin
    · exact n2 hin
    · exact n1 (by rw [hin]; exact hW.ow)
    · exact n1 (q4 _ hin)

end Go.Proofs.YtmgjegokkbghlaaGreat

namespace Go.Proofs.YtmgjegokkbghlaaGreat
open Go.RowKit Go.Maps Bdd
set_option linter.unusedVariables false
attribute [local go_sem ↓] Go.wp_at_zero Go.wp_at_succ

/-- the hold's cells but the one that is written -/
def holdC (m : Int) (b : Bool) : Nat → Option Value
  | 0 => some (.slice none 0 0)
  | 1 => some (.slice none 0 0)
  | 2 => some (.slice none 0 0)
  | 3 => some (.int .i64 m)
  | 4 => some (.bool b)
  | _ => none

theorem row_slice {w : World} {base : Nat} {e : TypeId} {size : Nat} {v : Value} {n : Nat} {xs : List Value} (h : w.ownsRow base e size v n xs) (hn : 0 < n) : ∃ g cap, v = .slice (some ⟨g, 0, none⟩) n cap := by
  rcases h.2 with ⟨_, h0⟩ | ⟨g, cap, cur, e, _⟩
  · omega
  · exact ⟨g, cap, e⟩

set_option maxRecDepth 100000 in
set_option maxHeartbeats 4000000 in
theorem keepTruths_any {Q : Nat → Prop} {w0 w : World} {own : Own} {W K : Nat} {ps : List Pr} {hs : List Nat} (hW : WX Q w0 w own W ps hs K) (hK : K ≤ 8796093022208) {v : Value} {m base : Nat} {f : Nat → Bool} (hrow : w.ownsRow base 4 1 v m (rowB m f)) (hbase : base ≤ w.heap.size) (hm : m ≤ 140737488351240) (hvo : ∀ g, v.ownBlock = some g → own g = (0, 0)) :
    Calls Tryz.prog 53 #[ptr W, v] w fun e w' => e = .returned (.tuple #[]) ∧ ∃ own' h, WX Q w0 w' own' W ps (hs ++ [h]) (K + 1) ∧ (∀ (p : Addr) (u : Value), own p.block ≠ (1, 0) → v.ownBlock ≠ some p.block → w.cell? p = some u → w'.cell? p = some u) ∧ Onlys own (fun y => y = (0, 0) ∨ y = (1, 0)) w w' ∧ ∀ b tg, b < w.heap.size → tg ≠ (0, 0) → own b = tg → own' b = tg := by
  obtain ⟨hv, q1, q2, q3, q4⟩ := hW.c1
  obtain ⟨ha, hn, hc, hhn, rfl⟩ : ∃ a n cap, n = hs.length ∧ hv = .slice a n cap := by
    rcases q2.2 with ⟨e, h0⟩ | ⟨g, cap, cur, e, _⟩
    · exact ⟨none, 0, 0, h0.symm, e⟩
    · exact ⟨_, _, cap, rfl, e⟩
  obtain ⟨a, cap, rfl⟩ : ∃ a cap, v = .slice a m cap := by
    rcases hrow.2 with ⟨e, h0⟩ | ⟨g, cap, cur, e, _⟩
    · exact ⟨none, 0, by rw [e, h0]⟩
    · exact ⟨_, cap, e⟩
  obtain ⟨vo, hvoe⟩ : ∃ vo, vo = (Value.slice a m cap).ownBlock := ⟨_, rfl⟩
  rw [← hvoe] at hvo
  have hvl : ∀ g, vo = some g → g < w.heap.size := fun g e => (hrow.lt g (by rw [← hvoe]; exact e)).2
  have hnb : (hn : Int) ≤ 8796093022208 := by have := hW.kh; omega
  have hm' : (m : Int) ≤ 140737488351240 := by omega
  have hWl : W < w.heap.size := hW.lt
  have hWf : w.frozen? ⟨W, 1, none⟩ = false := hW.fr 1
  have hml : 1000 < maxLen := by decide
  have hml2 : 140737488355328 < maxLen := by decide
  obtain ⟨i4, hi4, z40, z41, z42⟩ := info_parts info4
  obtain ⟨iL, hiL, zL0, zL1, zL2⟩ := info_parts infoLists
  obtain ⟨iH, hiH, zH0, zH1, zH2⟩ := info_parts infoHoldP
  obtain ⟨b, hb⟩ : ∃ b : Bool, b = ((hn : Int) % 2 == 0) := ⟨_, rfl⟩
  obtain ⟨Y, hY⟩ : ∃ Y, Y = w.alloc (.cells #[.slice none 0 0, .slice none 0 0, .slice none 0 0, .int .i64 0, .bool b] 92) := ⟨_, rfl⟩
  have hkY : Keeps [] w Y := by rw [hY]; exact (Keeps.refl _ _).alloc _
  have hlY : Y.heap.size = w.heap.size + 1 := by rw [hY]; simp
  have hcY : ∀ j v, holdC 0 b j = some v → Y.cell? ⟨w.heap.size, j, none⟩ = some v := fun j v hj => by
    rw [hY, World.cell?_alloc_at _ _ _ _ rfl]
    match j, hj with
    | 0, hj => exact hj
    | 1, hj => exact hj
    | 2, hj => exact hj
    | 3, hj => exact hj
    | 4, hj => exact hj
  have hcY1 : Y.cell? ⟨w.heap.size, 1, none⟩ = some (.slice none 0 0) := by rw [hY]; simp
  have hfY : ∀ j, Y.frozen? ⟨w.heap.size, j, none⟩ = false := fun j => by rw [hY]; exact World.frozen?_alloc_at _ _ _ _ rfl
  have HRow : Hid (Y.ownsRow base 4 1 (.slice a m cap) m (rowB m f)) := row_keeps hrow hkY (by simp)
  have HW : Hid (WX Q w0 w own W ps hs K) := hW
  have HQ2 : Hid (w.ownsRow 0 51 1 (.slice ha hn hc) hs.length (hs.map ptr)) := q2
  have HVo : Hid (vo = (Value.slice a m cap).ownBlock) := hvoe
  have Hhn : Hid (hn = hs.length) := hhn
  have HVO : Hid (∀ g, vo = some g → own g = (0, 0)) := hvo
  have HQ4 : Hid (∀ g, (Value.slice ha hn hc).ownBlock = some g → own g = (1, 0)) := q4
  have nW : W ∉ vo.toList := fun hin => by
    have h1 := hvo W (by simpa using hin)
    rw [hW.ow] at h1
    simp at h1
  clear hrow hvoe hhn q2 hW hvo q4
  show Calls Tryz.prog 53 #[.pointer (some ⟨W, 0, none⟩), .slice a m cap] w _
  go_enter Tryz.func53, Tryz.ntmps53
  go_wp2_with fail
  rw [← hb, ← hY]
  clear hb hY
  go_loopw [5] (fun x wr => ∃ j : Nat, j ≤ m ∧ x = .int .i64 j ∧ wr.ownsRow base 4 1 (.slice a m cap) m (rowB m (fun i => if i < j then b else f i)) ∧ Keeps vo.toList Y wr) (fun x _ => m - (intOf x).toNat)
  case atStart =>
    refine ⟨0, by omega, rfl, ?_, Keeps.refl _ _⟩
    have e : rowB m (fun i => if i < 0 then b else f i) = rowB m f := rowB_congr (fun i _ => by simp)
    rw [e]
    exact HRow.out
  case round =>
    obtain ⟨j, hj, rfl, hown, hk⟩ := hrel
    have nB : w.heap.size ∉ vo.toList := fun hin => by have := hvl w.heap.size (by simpa using hin); omega
    have hcr : ∀ j v, holdC 0 b j = some v → wr.cell? ⟨w.heap.size, j, none⟩ = some v := fun j v hj => hk.cell (hcY j v hj) nB
    by_cases hlt : j < m
    · have hj0 : (0 : Int) ≤ (j : Int) := by omega
      have hj1 : (j : Int) < (m : Int) := by omega
      obtain ⟨g, ea⟩ : ∃ g, a = some ⟨g, 0, none⟩ := by
        rcases hown.2 with ⟨_, h0⟩ | ⟨g, cap', cur, e, _⟩
        · omega
        · simp at e; exact ⟨g, e.1⟩
      subst ea
      have evo : vo = some g := HVo.out
      have p1 : ∃ u, wr.cell? ⟨g, j, none⟩ = some u := ⟨_, by rw [World.ownsRow.cellAt hown j (by omega), rowB_get _ hlt]⟩
      obtain ⟨u, p1⟩ := p1
      have p2 := World.ownsRow.frozenAt hown j
      have p4 : wr.cell? ⟨w.heap.size, 4, none⟩ = some (.bool b) := hcr 4 _ rfl
      have hs1 := (World.ownsRow.stored hown j (.bool b)).1
      rw [rowB_set (f' := fun i => if i < j + 1 then b else f i) (by simp) (fun i hi => by
        by_cases e : i < j
        · simp [e]; omega
        · have : ¬ i < j + 1 := by omega
          simp [e, this])] at hs1
      have HS : Hid ((wr.setCell ⟨g, j, none⟩ (.bool b)).ownsRow base 4 1 (.slice (some ⟨g, 0, none⟩) m cap) m (rowB m (fun i => if i < j + 1 then b else f i))) := hs1
      clear hs1 hown hcr
      go_wp2_with fail
      go_roundw
      case rel =>
        exact ⟨j + 1, by omega, by go_num, HS.out, hk.setCell _ (Or.inl (by simp [evo])) _⟩
      case measure => simp [intOf]; omega
    · have hj1 : (m : Int) ≤ (j : Int) := by omega
      have hKT0 : KT w w.heap.size (.bool b) 4 32 vo 1 (holdC 0 b) base m (.slice a m cap) (.slice none 0 0) [] wr := by
        refine ⟨?_, hk.cell hcY1 nB, fun j => (hk.frozen (p := ⟨w.heap.size, j, none⟩) (show w.heap.size < Y.heap.size by omega) nB).trans (hfY j), World.ownsRow_nil _ _ _ _, by simp, fun g e => ?_, (hkY.mono (by simp)).trans hk, fun j v _ hj => hcr j v hj⟩
        · have e2 : rowB m (fun i => if i < j then b else f i) = List.replicate m (.bool b) := by
            rw [← rowB_same]
            exact rowB_congr (fun i hi => by rw [if_pos (by omega)])
          rw [← e2]
          exact hown
        · rw [← HVo.out] at e
          exact ⟨fun _ => e, by have := hvl g e; omega⟩
      have hBr : w.heap.size < wr.heap.size := by have := hk.size; omega
      obtain ⟨tv0, htv0⟩ : ∃ tv0, tv0 = Value.slice none 0 0 := ⟨_, rfl⟩
      rw [← htv0] at hKT0
      have x1 := hKT0.c1
      have xf := hKT0.fr 1
      have HKT : Hid (KT w w.heap.size (.bool b) 4 32 vo 1 (holdC 0 b) base m (.slice a m cap) tv0 [] wr) := hKT0
      have hno : ∀ j, tv0.ownBlock = some j → False := fun j hj => by rw [htv0] at hj; cases hj
      clear hown hKT0 hcr htv0
      go_wp2_with (first
        | (at_builtin; refine wpList_append_own_at _ rfl _ _ 89 rfl (w.heap.size + 1) 32 iL (.slice none 0 0) 1 24 Tryz.underlying89 hiL zL0 zL1 zL2 rfl (by decide) _ 0 [] rfl (World.ownsRow.alloc HKT.out.ht _) ⟨wr.heap.size, 0, none⟩ 1 1 [.slice a m cap] rfl rfl (cell_one_new _ _ _) (by simp [Value.oneCell']) (by omega) (by omega) (by simp; omega) ?_; intro tv1 w2 hown1 hgrow1 hnil1 hat1; obtain ⟨g1, cap1, hv1⟩ := row_slice hown1 (by omega); subst hv1; have hA := (HKT.out.alloc hBr (.cells #[.slice a m cap] 32)); have hG := hA.growT (by decide) (by simp; omega) (Nat.le_refl _) hown1 hgrow1; have kk : Keeps [] wr w2 := ((Keeps.refl [] wr).alloc _).grown hgrow1 (fun j hj => (hno j hj).elim); have y1 : w2.cell? ⟨w.heap.size, 1, none⟩ = some tv0 := kk.cell x1 (by simp); have yf : w2.frozen? ⟨w.heap.size, 1, none⟩ = false := (kk.frozen (p := ⟨w.heap.size, 1, none⟩) hBr (by simp)).trans xf; have hs2 : w.heap.size < w2.heap.size := cell_lt (p := ⟨w.heap.size, 1, none⟩) y1)
        | fail)
      have HG : Hid (KT w w.heap.size (.bool b) 4 32 vo 1 (holdC 0 b) base m (.slice a m cap) (.slice (some ⟨g1, 0, none⟩) 1 cap1) ([] ++ [.slice a m cap]) (w2.setCell ⟨w.heap.size, 1, none⟩ (.slice (some ⟨g1, 0, none⟩) 1 cap1))) := hG
      clear hG hA hown1 hgrow1 hnil1 hat1 kk
      go_loopw [1, 6] (fun l x wr => ∃ (j : Nat) (tv : Value) (us : List Value) (la : Option Addr) (lc : Nat), j ≤ 8 ∧ x = .int .i64 j ∧ us.length = j + 1 ∧ l = .slice la (m + j) lc ∧ KT w w.heap.size (.bool b) 4 32 vo 1 (holdC 0 b) base (m + j) (.slice la (m + j) lc) tv us wr ∧ w.heap.size < wr.heap.size) (fun _ x _ => 8 - (intOf x).toNat)
      case atStart => exact ⟨0, _, _, a, cap, by omega, rfl, rfl, rfl, HG.out, by simpa using hs2⟩
      case round =>
        clear HG HKT
        obtain ⟨j, tv, us, la, lc, hj, rfl, hul, rfl, hKT, hBr⟩ := hrel
        by_cases hlt : j < 8
        · have hj0 : (0 : Int) ≤ (j : Int) := by omega
          have hj1 : (j : Int) < 8 := by omega
          have c4 : wr.cell? ⟨w.heap.size, 4, none⟩ = some (.bool b) := hKT.cs 4 _ (by omega) rfl
          have HKT : Hid (KT w w.heap.size (.bool b) 4 32 vo 1 (holdC 0 b) base (m + j) (.slice la (m + j) lc) tv us wr) := hKT
          obtain ⟨un, hun⟩ : ∃ un, un = us.length := ⟨_, rfl⟩
          have HUN : Hid (un = us.length) := hun
          have hunj : un = j + 1 := by omega
          have hsz0 : w.heap.size ≤ wr.heap.size := by omega
          clear hKT hun hul
          go_wp2_with (first
            | (at_builtin; obtain ⟨g2, cap2, w3, hr3, ho3, hat3⟩ := run_append_stays base 32 32 4 i4 (.bool false) 1 1 Tryz.underlying32 hi4 z40 z41 z42 rfl (by decide) (World.ownsRow.alloc HKT.out.hl (.cells #[.bool b] 4)) (a := ⟨wr.heap.size, 0, none⟩) (m := 1) (c := 1) (news := [.bool b]) rfl (cell_one_new _ _ _) (by simp [Value.oneCell']) (by omega) (by omega) (by omega) (by simp; omega); refine wpList_append_run rfl _ _ 32 rfl _ _ _ rfl rfl hr3 ?_; have hG3 := (HKT.out.alloc hBr (.cells #[.bool b] 4)).growL (by decide) (by simp; omega) (Nat.le_refl _) ho3 hat3; have z1 := hG3.c1; have zf := hG3.fr 1; have hs3 : w.heap.size < w3.heap.size := cell_lt (p := ⟨w.heap.size, 1, none⟩) z1; have HG3 : Hid (KT w w.heap.size (.bool b) 4 32 vo 1 (holdC 0 b) base (m + j + 1) (.slice (some ⟨g2, 0, none⟩) (m + j + 1) cap2) tv us w3) := hG3; clear hr3 ho3 hat3 hG3)
            | (at_builtin; refine wpList_append_own_at _ rfl _ _ 89 rfl (w.heap.size + 1) 32 iL (.slice none 0 0) 1 24 Tryz.underlying89 hiL zL0 zL1 zL2 rfl (by decide) _ us.length us rfl (World.ownsRow.alloc HG3.out.ht _) ⟨w3.heap.size, 0, none⟩ 1 1 [.slice (some ⟨g2, 0, none⟩) (m + j + 1) cap2] rfl rfl (cell_one_new _ _ _) (by simp [Value.oneCell']) (by rw [← HUN.out]; omega) (by rw [← HUN.out]; omega) (by simp; omega) ?_; intro tv4 w4 hown4 hgrow4 hnil4 hat4; obtain ⟨g4, cap4, hv4⟩ := row_slice hown4 (by omega); subst hv4; have hG4 := (HG3.out.alloc hs3 (.cells #[.slice (some ⟨g2, 0, none⟩) (m + j + 1) cap2] 32)).growT (by decide) (by simp; omega) (Nat.le_refl _) hown4 hgrow4; have nBt : w.heap.size ∉ tv.ownBlock.toList := (fun hin => by have := (HG3.out.ht.lt w.heap.size (by simpa using hin)).1; omega); have kk : Keeps tv.ownBlock.toList w3 w4 := ((Keeps.refl _ w3).alloc _).grown hgrow4 (fun j hj => Or.inl (Option.mem_toList.2 hj)); have y4 : w4.cell? ⟨w.heap.size, 1, none⟩ = some tv := kk.cell z1 nBt; have yf4 : w4.frozen? ⟨w.heap.size, 1, none⟩ = false := (kk.frozen (p := ⟨w.heap.size, 1, none⟩) hs3 nBt).trans zf; have hs4 : w.heap.size < w4.heap.size := cell_lt (p := ⟨w.heap.size, 1, none⟩) y4; have HG4 : Hid (KT w w.heap.size (.bool b) 4 32 vo 1 (holdC 0 b) base (m + j + 1) (.slice (some ⟨g2, 0, none⟩) (m + j + 1) cap2) (.slice (some ⟨g4, 0, none⟩) (us.length + 1) cap4) (us ++ [.slice (some ⟨g2, 0, none⟩) (m + j + 1) cap2]) (w4.setCell ⟨w.heap.size, 1, none⟩ (.slice (some ⟨g4, 0, none⟩) (us.length + 1) cap4))) := hG4; clear hown4 hgrow4 hnil4 hat4 hG4 kk)
            | fail)
          go_roundw
          case rel => exact ⟨j + 1, _, _, _, cap2, by omega, by go_num, by simp; rw [← HUN.out]; omega, rfl, HG4.out, by simpa using hs4⟩
          case measure => simp [intOf]; omega
        · have hj8 : j = 8 := by omega
          subst hj8
          have HKT : Hid (KT w w.heap.size (.bool b) 4 32 vo 1 (holdC 0 b) base (m + 8) (.slice la (m + 8) lc) tv us wr) := hKT
          have d1 : wr.cell? ⟨W, 1, none⟩ = some (.slice ha hn hc) := hKT.kp.cell q1 nW
          have df : wr.frozen? ⟨W, 1, none⟩ = false := (hKT.kp.frozen (p := ⟨W, 1, none⟩) hWl nW).trans hWf
          have hrow8 : wr.ownsRow 0 51 1 (.slice ha hn hc) hn (hs.map ptr) := by
            have := row_keeps HQ2.out hKT.kp (fun g e hin => by
              have h1 := HVO.out g (by simpa using hin)
              rw [HQ4.out g e] at h1
              simp at h1)
            rw [← Hhn.out] at this
            exact this
          have HR8 : Hid (wr.ownsRow 0 51 1 (.slice ha hn hc) hn (hs.map ptr)) := hrow8
          have HUL : Hid (us.length = 9) := hul
          have nW2 : W ∉ (Value.slice ha hn hc).ownBlock.toList := by simpa using q3
          clear hKT hrow8 hul
          have hn64 : hn ≤ 8796093022208 := by omega
          go_wp2_with (first
            | (at_builtin; refine wpList_append_own_at _ rfl _ _ 27 rfl 0 51 iH (.pointer none) 1 8 Tryz.underlying27 hiH zH0 zH1 zH2 rfl (by decide) _ hn (hs.map ptr) rfl (World.ownsRow.alloc HR8.out _) ⟨wr.heap.size, 0, none⟩ 1 1 [ptr w.heap.size] rfl rfl (cell_one_new _ _ _) (by simp [Value.oneCell', ptr]) (by omega) (by omega) (by simp) ?_; intro hv9 w9 hown9 hgrow9 hnil9 hat9; obtain ⟨g9, cap9, hv9e⟩ := row_slice hown9 (by omega); subst hv9e; have kk9 : Keeps (Value.slice ha hn hc).ownBlock.toList wr w9 := ((Keeps.refl _ wr).alloc _).grown hgrow9 (fun j hj => Or.inl (Option.mem_toList.2 hj)); have e1 : w9.cell? ⟨W, 1, none⟩ = some (.slice ha hn hc) := kk9.cell d1 nW2; have ef : w9.frozen? ⟨W, 1, none⟩ = false := (kk9.frozen (p := ⟨W, 1, none⟩) (show W < wr.heap.size by omega) nW2).trans df; have HOW : Hid (w9.ownsRow 0 51 1 (.slice (some ⟨g9, 0, none⟩) (hn + 1) cap9) (hn + 1) (hs.map ptr ++ [ptr w.heap.size])) := hown9; have HGR : Hid ((wr.alloc (.cells #[ptr w.heap.size] 51)).grownBy w9 (Value.slice ha hn hc).ownBlock) := hgrow9; have HAT : Hid ((Value.slice (some ⟨g9, 0, none⟩) (hn + 1) cap9).ownBlock = (Value.slice ha hn hc).ownBlock ∨ (Value.slice (some ⟨g9, 0, none⟩) (hn + 1) cap9).ownBlock = some (wr.alloc (.cells #[ptr w.heap.size] 51)).heap.size) := hat9; clear hown9 hgrow9 hnil9 hat9 kk9)
            | fail)
          go_end0
          refine ⟨rfl, ?_⟩
          have hA8 := HKT.out.alloc hBr (.cells #[ptr w.heap.size] 51)
          have hO := HOW.out
          have hQ2 := HQ2.out
          have hAT := HAT.out
          obtain ⟨V9, hV9⟩ : ∃ V9, V9 = Value.slice (some ⟨g9, 0, none⟩) (hn + 1) cap9 := ⟨_, rfl⟩
          rw [← hV9] at hO hAT ⊢
          rw [Hhn.out] at hO
          obtain ⟨own', hfin⟩ := HW.out.hold HVO.out q1 hQ2 q3 HQ4.out (by decide) (by decide) hA8 (by rw [HUL.out]; exact Nat.le_refl _) (by omega) (by simp; omega) hO HGR.out (hAT.imp id (fun e => ⟨_, e, Nat.le_refl _⟩)) (fun own' ho hcs hc1 hl => ⟨ho, .slice none 0 0, tv, 0, b, hcs 0 _ (by omega) rfl, hc1, hcs 2 _ (by omega) rfl, hcs 3 _ (by omega) rfl, hcs 4 _ (by omega) rfl, ⟨none, 0, 0, rfl, by omega, Or.inl rfl⟩, hl⟩)
          exact ⟨own', _, hfin.1, fun p u n1 n2 hc => hfin.2.1 p u n1 (by rw [HVo.out]; exact n2) hc, hfin.2.2.1, hfin.2.2.2⟩

end Go.Proofs.YtmgjegokkbghlaaGreat

namespace Go.Proofs.YtmgjegokkbghlaaGreat
open Go.RowKit Go.Maps Bdd
set_option linter.unusedVariables false
attribute [local go_sem ↓] Go.wp_at_zero Go.wp_at_succ

/-- a call, as the script has it -/
def opV (k m a b c : Int) (l v : Value) : Value := .agg #[.int .i64 k, .int .i64 m, .int .i64 a, .int .i64 b, .int .i64 c, l, v]
def opC (k m a b c : Int) (l v : Value) : Array Value := #[.int .i64 k, .int .i64 m, .int .i64 a, .int .i64 b, .int .i64 c, l, v]

/-- what is nobody's stays as it was -/
def Free (own : Own) (w w' : World) : Prop := ∀ (p : Addr) (u : Value), own p.block = (0, 3) → w.cell? p = some u → w'.cell? p = some u
theorem Free.keeps {own : Own} {w w' : World} (hk : Keeps [] w w') : Free own w w' := fun p u _ hc => hk.cell hc (by simp)

theorem infoPair : (Tryz.prog.info? 44).map (fun i => (i.zero, i.size, i.bytes)) = some (some (.agg #[.pointer none, .pointer none, .pointer none]), 3, 24) := by kernel_rfl

/-- one pair more is set down among the others -/
theorem WX.pair {w0 w w3 w4 : World} {own own3 : Own} {W K : Nat} {ps : List Pr} {hs : List Nat} {pv pv' : Value} {x : Pr} (hW : WAt w0 w own W ps hs K)
    (q1 : w.cell? ⟨W, 0, none⟩ = some pv) (q2 : w.ownsRow 0 44 3 pv ps.length (flatP ps)) (q3 : pv.ownBlock ≠ some W) (q4 : ∀ g, pv.ownBlock = some g → own g = (1, 0))
    (hk : Keeps [] w w3) (ho3 : ∀ b, b < w.heap.size → own3 b = own b) (hx : PairOk w3 own3 ps.length x (K + 1))
    (hown : w4.ownsRow 0 44 3 pv' (ps.length + 1) (flatP ps ++ [ptr x.p, ptr x.q, ptr x.r])) (hg : w3.grownBy w4 pv.ownBlock) (hat : pv'.ownBlock = pv.ownBlock ∨ ∃ g, pv'.ownBlock = some g ∧ w3.heap.size ≤ g) :
    ∃ own', WAt w0 (w4.setCell ⟨W, 0, none⟩ pv') own' W (ps ++ [x]) hs (K + 1) ∧ Free own w (w4.setCell ⟨W, 0, none⟩ pv') := by
  obtain ⟨w', hw'⟩ : ∃ w', w' = w4.setCell ⟨W, 0, none⟩ pv' := ⟨_, rfl⟩
  rw [← hw']
  have hW3 : WAt w0 w3 own3 W ps hs K := hW.keeps hk (fun b tg hb _ e => by rw [ho3 b hb]; exact e)
  have hk4 : Keeps pv.ownBlock.toList w3 w4 := (Keeps.refl _ _).grown hg (fun j hj => Or.inl (by simp [hj]))
  have hk' : Keeps (W :: pv.ownBlock.toList) w3 w' := by rw [hw']; exact (hk4.mono (fun i hi => List.mem_cons_of_mem _ hi)).setCell ⟨W, 0, none⟩ (Or.inl (by simp)) _
  have hs3 := hk.size
  have q4' : ∀ g, pv.ownBlock = some g → own3 g = (1, 0) := fun g e => by rw [ho3 g (q2.lt g e).2]; exact q4 g e
  have hon : Onlys own3 (fun y => y = (1, 0)) w3 w' := ⟨_, hk', fun b hb => by
    rcases List.mem_cons.1 hb with e | hb
    · exact Or.inl (by rw [e]; exact hW3.ow)
    · exact Or.inl (q4' b (by simpa using hb))⟩
  obtain ⟨own', hown'⟩ : ∃ own' : Own, own' = newOwn own3 w3 (1, 0) := ⟨_, rfl⟩
  have o1 : ∀ b tg, b < w3.heap.size → own3 b = tg → own' b = tg := fun b tg hb e => by rw [hown', newOwn_old hb]; exact e
  obtain ⟨hv, h1, h2, h3, h4⟩ := hW3.c1
  have hdiff : (51 : TypeId) ≠ 44 := by decide
  have q2' : w3.ownsRow 0 44 3 pv ps.length (flatP ps) := row_keeps q2 hk (by simp)
  have nhv : ∀ g, hv.ownBlock = some g → g ∉ W :: pv.ownBlock.toList := fun g e hin => by
    rcases List.mem_cons.1 hin with e2 | hin
    · exact h3 (by rw [e, e2])
    · exact rows_apart h2 q2' hdiff g e (by simpa using hin)
  have nW2 : W ∉ pv.ownBlock.toList := by simpa using q3
  have hWl := hW3.lt
  have hvW : pv'.ownBlock ≠ some W := by
    rcases hat with e | ⟨g, e, hgl⟩
    · rw [e]; exact q3
    · rw [e]; intro e2; simp at e2; omega
  have hc4 : ∀ j v, w3.cell? ⟨W, j, none⟩ = some v → w4.cell? ⟨W, j, none⟩ = some v := fun j v hc => hk4.cell hc nW2
  refine ⟨own', ⟨low_keeps hW3.low hW3.mine hon (by simp), fun b hb => o1 b _ (by have := hW3.low.size; omega) (hW3.mine b hb), o1 W _ hWl hW3.ow, fun j => ?_, ⟨pv', ?_, ?_, hvW, fun g hg' => ?_⟩, ⟨hv, ?_, row_keeps h2 hk' nhv, h3, fun g e => o1 g _ (h2.lt g e).2 (h4 g e)⟩, ?_, fun i y _ hy => ?_, fun j y hy => ?_, by simp; exact hW.kp, Nat.le_succ_of_le hW.kh⟩, fun p u h0 hc => hon.cell (hk.cell hc (by simp)) (fun e => by rw [ho3 p.block (cell_lt hc), h0] at e; simp at e)⟩
  · rw [hw', World.frozen?_setCell, hk4.frozen (p := ⟨W, j, none⟩) hWl nW2]
    exact hW3.fr j
  · rw [hw']
    exact World.cell?_setCell_same _ _ _ (hc4 0 _ (hk.cell q1 (by simp)))
  · rw [hw', flatP_snoc, List.length_append]
    exact ownsRow_setCell_other hown hvW _
  · rcases hat with e | ⟨g2, e, hgl⟩
    · rw [e] at hg'
      exact o1 g _ (by have := (q2.lt g hg').2; omega) (q4' g hg')
    · have e3 : g2 = g := by rw [e] at hg'; simpa using hg'
      subst e3
      rw [hown']
      exact newOwn_new hgl
  · rw [hw', World.cell?_setCell_other _ _ _ _ (by simp)]
    exact hc4 1 _ h1
  · rw [hw', World.cell?_setCell_other _ _ _ _ (by simp)]
    exact hc4 2 _ hW3.c2
  · by_cases hi : i < ps.length
    · rw [List.getElem?_append_left hi] at hy
      exact ((hW3.prs i y trivial hy).wider (Nat.le_succ K)).frame hon (by simp) (by simp) (by simp) (fun b hb e => o1 b _ hb e) (fun b hb e => o1 b _ hb e) (fun b hb e => o1 b _ hb e)
    · rw [List.getElem?_append_right (by omega)] at hy
      have hj2 : i = ps.length := by
        have : i - ps.length < 1 := by
          false_or_by_contra
          rename_i hc
          rw [List.getElem?_eq_none (by simp; omega)] at hy
          cases hy
        omega
      subst hj2
      simp at hy
      subst hy
      exact hx.frame hon (by simp) (by simp) (by simp) (fun b hb e => o1 b _ hb e) (fun b hb e => o1 b _ hb e) (fun b hb e => o1 b _ hb e)
  · exact (hW3.hds j y hy).frame hon (by simp) (fun b hb e => o1 b _ hb e)

set_option maxRecDepth 100000 in
set_option maxHeartbeats 1000000 in
theorem begin_bad {w0 w : World} {own : Own} {W K : Nat} {ps : List Pr} {hs : List Nat} (hW : WAt w0 w own W ps hs K) {k m a b c : Int} {l v : Value} (h : a < 1 ∨ 8 < a ∨ b < 0 ∨ 2000 < b) :
    Calls Tryz.prog 8 #[ptr W, opV k m a b c l v] w fun e w' => e = .returned (.bool true) ∧ Keeps [] w w' := by
  have H1 : Hid (∀ w : World, Calls Tryz.prog 11 #[.int .i64 a, .int .i64 b] w fun e w' => e = .returned (.tuple #[.pointer none, .int .i64 1]) ∧ Keeps [] w w') := fun w => new_bad h
  have H2 : Hid (∀ w : World, Calls Tryz.prog 12 #[.int .i64 a, .int .i64 b] w fun e w' => e = .returned (.tuple #[.pointer none, .int .i64 1]) ∧ Keeps [] w w') := fun w => rnew_bad h
  clear h hW
  obtain ⟨wb, hwb⟩ : ∃ wb, wb = w.alloc (.cells (opC k m a b c l v) 34) := ⟨_, rfl⟩
  have hkb : Keeps [] w wb := by rw [hwb]; exact (Keeps.refl _ _).alloc _
  have b2 : wb.cell? ⟨w.heap.size, 2, none⟩ = some (.int .i64 a) := by rw [hwb]; simp [opC]
  have b3 : wb.cell? ⟨w.heap.size, 3, none⟩ = some (.int .i64 b) := by rw [hwb]; simp [opC]
  show Calls Tryz.prog 8 #[.pointer (some ⟨W, 0, none⟩), .agg #[.int .i64 k, .int .i64 m, .int .i64 a, .int .i64 b, .int .i64 c, l, v]] w _
  unfold opC at hwb
  go_enter Tryz.func8, Tryz.ntmps8
  go_wp2_with fail
  rw [← hwb]
  clear hwb
  refine (H1.out _).mono ?_
  rintro e w1 ⟨rfl, hk1⟩
  have d2 := hk1.cell b2 (by simp)
  have d3 := hk1.cell b3 (by simp)
  go_wp2_with fail
  refine (H1.out _).mono ?_
  rintro e w2 ⟨rfl, hk2⟩
  have f2 := hk2.cell d2 (by simp)
  have f3 := hk2.cell d3 (by simp)
  go_wp2_with fail
  refine (H2.out _).mono ?_
  rintro e w3 ⟨rfl, hk3⟩
  go_wp2_with fail
  go_ret
  exact ⟨rfl, ((hkb.trans hk1).trans hk2).trans hk3⟩

set_option maxRecDepth 100000 in
set_option maxHeartbeats 1000000 in
theorem begin_good {w0 w : World} {own : Own} {W K : Nat} {ps : List Pr} {hs : List Nat} (hW : WAt w0 w own W ps hs K) (hK : K ≤ 4000000000000) {k m b c : Int} {n : Nat} {l v : Value} (h1 : 1 ≤ n) (h8 : n ≤ 8) (hb0 : 0 ≤ b) (hb1 : b ≤ 2000) :
    Calls Tryz.prog 8 #[ptr W, opV k m n b c l v] w fun e w' => e = .returned (.bool true) ∧ ∃ own' x, x.A = Abs.new n b ∧ WAt w0 w' own' W (ps ++ [x]) hs (K + 1) ∧ Free own w w' := by
  have H1 : Hid (∀ (w : World) (own : Own) (tg : Tag), Calls Tryz.prog 11 #[.int .i64 n, .int .i64 b] w fun e w' => ∃ s, e = .returned (.tuple #[.pointer (some ⟨s, 0, none⟩), .int .i64 0]) ∧ PS w' (newOwn own w tg) tg s (Abs.new n b) 1 ∧ Keeps [] w w') := fun w own tg => ps_new h1 h8 hb0 hb1 own tg
  have H2 : Hid (∀ (w : World) (own : Own) (tg : Tag), Calls Tryz.prog 12 #[.int .i64 n, .int .i64 b] w fun e w' => ∃ r, e = .returned (.tuple #[.pointer (some ⟨r, 0, none⟩), .int .i64 0]) ∧ RW w' (newOwn own w tg) tg r (Abs.new n b) ∧ Keeps [] w w') := fun w own tg => rs_new h1 h8 hb0 hb1 own tg
  have HA : AbsOk (Abs.new n b) := AbsOk.fresh h1 h8 b
  obtain ⟨pv, q1, q2, q3, q4⟩ := hW.c0
  obtain ⟨ia, hia, z0, z1, z2⟩ := info_parts infoPair
  have hml : 5000000000000 < maxLen := by decide
  have hpK : ps.length ≤ 4000000000000 := Nat.le_trans hW.kp hK
  have hWl := hW.lt
  have hWf := hW.fr 0
  have HW : Hid (WAt w0 w own W ps hs K) := hW
  obtain ⟨wb, hwb⟩ : ∃ wb, wb = w.alloc (.cells (opC k m n b c l v) 34) := ⟨_, rfl⟩
  have hkb : Keeps [] w wb := by rw [hwb]; exact (Keeps.refl _ _).alloc _
  have b2 : wb.cell? ⟨w.heap.size, 2, none⟩ = some (.int .i64 n) := by rw [hwb]; simp [opC]
  have b3 : wb.cell? ⟨w.heap.size, 3, none⟩ = some (.int .i64 b) := by rw [hwb]; simp [opC]
  clear hW h1 h8 hb0 hb1
  show Calls Tryz.prog 8 #[.pointer (some ⟨W, 0, none⟩), .agg #[.int .i64 k, .int .i64 m, .int .i64 n, .int .i64 b, .int .i64 c, l, v]] w _
  unfold opC at hwb
  go_enter Tryz.func8, Tryz.ntmps8
  go_wp2_with fail
  rw [← hwb]
  clear hwb
  refine (H1.out _ own (2, ps.length)).mono ?_
  rintro e w1 ⟨s1, rfl, p1, hk1⟩
  have P1 : Hid (PS w1 (newOwn own wb (2, ps.length)) (2, ps.length) s1 (Abs.new n b) 1) := p1
  have d2 := hk1.cell b2 (by simp)
  have d3 := hk1.cell b3 (by simp)
  clear p1
  go_wp2_with fail
  refine (H1.out _ (newOwn own wb (2, ps.length)) (3, ps.length)).mono ?_
  rintro e w2 ⟨s2, rfl, p2, hk2⟩
  have P2 : Hid (PS w2 (newOwn (newOwn own wb (2, ps.length)) w1 (3, ps.length)) (3, ps.length) s2 (Abs.new n b) 1) := p2
  have f2 := hk2.cell d2 (by simp)
  have f3 := hk2.cell d3 (by simp)
  clear p2
  go_wp2_with fail
  refine (H2.out _ (newOwn (newOwn own wb (2, ps.length)) w1 (3, ps.length)) (4, ps.length)).mono ?_
  rintro e w3 ⟨r3, rfl, p3, hk3⟩
  have P3 : Hid (RW w3 (newOwn (newOwn (newOwn own wb (2, ps.length)) w1 (3, ps.length)) w2 (4, ps.length)) (4, ps.length) r3 (Abs.new n b)) := p3
  have hk : Keeps [] w w3 := ((hkb.trans hk1).trans hk2).trans hk3
  have g0 := hk.cell q1 (by simp)
  have gf : w3.frozen? ⟨W, 0, none⟩ = false := (hk.frozen (p := ⟨W, 0, none⟩) hWl (by simp)).trans hWf
  have HR : Hid (w3.ownsRow 0 44 3 pv ps.length (flatP ps)) := row_keeps q2 hk (by simp)
  have nW2 : W ∉ pv.ownBlock.toList := by simpa using q3
  have hW3 : W < w3.heap.size := by have := hk.size; omega
  obtain ⟨pa, pn, pc, rfl⟩ : ∃ a n c, pv = .slice a n c := by
    rcases q2.2 with ⟨e, _⟩ | ⟨g, cap, cur, e, _⟩
    · exact ⟨_, _, _, e⟩
    · exact ⟨_, _, _, e⟩
  have Q2 : Hid (w.ownsRow 0 44 3 (.slice pa pn pc) ps.length (flatP ps)) := q2
  obtain ⟨pl, hpl⟩ : ∃ pl, pl = ps.length := ⟨_, rfl⟩
  clear p3 q2
  go_wp2_with (first
    | (at_builtin; refine wpList_append_own_at _ rfl _ _ 26 rfl 0 44 ia _ 3 24 Tryz.underlying26 hia z0 z1 z2 rfl (by decide) _ ps.length (flatP ps) rfl (World.ownsRow.alloc HR.out _) ⟨w3.heap.size, 0, none⟩ 1 1 [ptr s1, ptr s2, ptr r3] rfl rfl (cells_laid _ _ _) (by simp [Value.oneCell', ptr]) (by omega) (by omega) (by simp) ?_; intro v4 w4 hown4 hgrow4 hnil4 hat4; obtain ⟨g4, cap4, hv4⟩ := row_slice hown4 (by omega); subst hv4; have kk4 : Keeps (Value.slice pa pn pc).ownBlock.toList w3 w4 := ((Keeps.refl _ w3).alloc _).grown hgrow4 (fun j hj => Or.inl (Option.mem_toList.2 hj)); have e1 := kk4.cell g0 nW2; have ef : w4.frozen? ⟨W, 0, none⟩ = false := (kk4.frozen (p := ⟨W, 0, none⟩) hW3 nW2).trans gf; have HG : Hid (w4.ownsRow 0 44 3 (.slice (some ⟨g4, 0, none⟩) (ps.length + 1) cap4) (ps.length + 1) (flatP ps ++ [ptr s1, ptr s2, ptr r3]) ∧ (w3.alloc (.cells #[ptr s1, ptr s2, ptr r3] 44)).grownBy w4 (Value.slice pa pn pc).ownBlock ∧ ((Value.slice (some ⟨g4, 0, none⟩) (ps.length + 1) cap4).ownBlock = (Value.slice pa pn pc).ownBlock ∨ (Value.slice (some ⟨g4, 0, none⟩) (ps.length + 1) cap4).ownBlock = some (w3.alloc (.cells #[ptr s1, ptr s2, ptr r3] 44)).heap.size)) := ⟨hown4, hgrow4, hat4⟩; clear hown4 hgrow4 hnil4 hat4 kk4)
    | fail)
  go_ret
  refine ⟨rfl, ?_⟩
  obtain ⟨k4, k5, k6⟩ := HG.out
  have hka : Keeps [] w3 (w3.alloc (.cells #[ptr s1, ptr s2, ptr r3] 44)) := (Keeps.refl _ _).alloc _
  obtain ⟨own3, hown3⟩ : ∃ own3, own3 = newOwn (newOwn (newOwn own wb (2, ps.length)) w1 (3, ps.length)) w2 (4, ps.length) := ⟨_, rfl⟩
  have hs1 := hk1.size
  have hs2 := hk2.size
  have hs0 := hkb.size
  have hx : PairOk (w3.alloc (.cells #[ptr s1, ptr s2, ptr r3] 44)) own3 ps.length ⟨s1, s2, r3, Abs.new n b⟩ (K + 1) := by
    refine ⟨HA, by simp [Abs.new]; omega, ((P1.out.keeps ((hk2.trans hk3).trans hka) (fun b hb e => ?_)).wider (by omega)), ((P2.out.keeps (hk3.trans hka) (fun b hb e => ?_)).wider (by omega)), P3.out.keeps HA hka (fun b hb e => by rw [hown3]; exact e)⟩
    · rw [hown3]
      unfold newOwn at e ⊢
      by_cases hb0 : b < wb.heap.size
      · rw [if_pos hb0] at e
        rw [if_pos (by omega), if_pos (by omega), if_pos hb0]
        exact e
      · rw [if_pos (by omega), if_pos hb, if_neg hb0]
    · rw [hown3]
      unfold newOwn at e ⊢
      rw [if_pos hb]
      exact e
  obtain ⟨own', hfin⟩ := WX.pair (x := ⟨s1, s2, r3, Abs.new n b⟩) HW.out q1 Q2.out q3 q4 (hk.trans hka) (fun b hb => by rw [hown3]; unfold newOwn; rw [if_pos (by omega), if_pos (by omega), if_pos (by omega)]) hx k4 k5 (k6.imp id (fun e => ⟨_, e, Nat.le_refl _⟩))
  exact ⟨own', _, rfl, hfin⟩

end Go.Proofs.YtmgjegokkbghlaaGreat
