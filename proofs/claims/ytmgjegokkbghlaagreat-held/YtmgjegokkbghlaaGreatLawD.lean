/- keepTruths: a list that was lent or came out is written full, and held. -/
import Derived.Test.YtmgjegokkbghlaaGreatLawC
import Derived.Maps.AppendAt
namespace Go.Proofs.YtmgjegokkbghlaaGreat
open Go.RowKit Go.Maps Bdd
set_option linter.unusedVariables false
attribute [local go_sem ↓] Go.wp_at_zero Go.wp_at_succ

/-- a block of that type -/
def Of (w : World) (g : Nat) (e : TypeId) : Prop := ∃ cur, w.heap[g]? = some (.cells cur e (0, 0))
theorem Of.ne {w : World} {g g' : Nat} {e e' : TypeId} (h : Of w g e) (h' : Of w g' e') (hn : e ≠ e') : g ≠ g' := by
  rintro rfl
  obtain ⟨c, h⟩ := h
  obtain ⟨c', h'⟩ := h'
  rw [h] at h'
  simp at h'
  exact hn h'.2
theorem Of.keeps {w w' : World} {g : Nat} {e : TypeId} {S : List Nat} (h : Of w g e) (hk : Keeps S w w') (hg : g ∉ S) : Of w' g e := by
  obtain ⟨c, h⟩ := h
  exact ⟨c, by rw [hk.block g (Array.getElem?_eq_some_iff.1 h).1 hg]; exact h⟩
theorem row_of {w : World} {base : Nat} {e : TypeId} {size : Nat} {v : Value} {n : Nat} {xs : List Value} (h : w.ownsRow base e size v n xs) : ∀ g, v.ownBlock = some g → Of w g e := by
  intro g hg
  rcases h.2 with ⟨rfl, _⟩ | ⟨g', cap, cur, rfl, _, hh, _⟩
  · cases hg
  · have : g' = g := by have : some g' = some g := hg; simpa using this
    subst this
    exact ⟨cur, hh⟩
theorem rows_apart {w : World} {b1 b2 : Nat} {e1 e2 : TypeId} {s1 s2 n1 n2 : Nat} {v1 v2 : Value} {x1 x2 : List Value} (h1 : w.ownsRow b1 e1 s1 v1 n1 x1) (h2 : w.ownsRow b2 e2 s2 v2 n2 x2) (hn : e1 ≠ e2) : ∀ g, v1.ownBlock = some g → v2.ownBlock ≠ some g :=
  fun g hg hg' => (row_of h1 g hg).ne (row_of h2 g hg') hn rfl

/-- a hold on the way: the list l of k places is written full; us: the lists so far -/
structure KT (w : World) (B : Nat) (x : Value) (e4 e32 : TypeId) (vo : Option Nat) (slot : Nat) (C : Nat → Option Value) (base k : Nat) (l tv : Value) (us : List Value) (wr : World) : Prop where
  hl : wr.ownsRow base e4 1 l k (List.replicate k x)
  c1 : wr.cell? ⟨B, slot, none⟩ = some tv
  fr : ∀ j, wr.frozen? ⟨B, j, none⟩ = false
  ht : wr.ownsRow (B + 1) e32 1 tv us.length us
  hu : ∀ u ∈ us, ∃ a n cap, u = .slice a n cap ∧ n ≤ k ∧ (n = 0 ∨ ∃ g, a = some ⟨g, 0, none⟩ ∧ (g < B → vo = some g) ∧ g ≠ B ∧ Of wr g e4 ∧ ∀ i, i < n → wr.cell? ⟨g, i, none⟩ = some x)
  lo : ∀ g, l.ownBlock = some g → (g < B → vo = some g) ∧ g ≠ B
  kp : Keeps vo.toList w wr
  cs : ∀ j v, j ≠ slot → C j = some v → wr.cell? ⟨B, j, none⟩ = some v

section
variable {w wr w2 : World} {B base k slot : Nat} {x : Value} {e4 e32 : TypeId} {vo : Option Nat} {C : Nat → Option Value} {l tv : Value} {us : List Value}
theorem KT.keeps {S : List Nat} (h : KT w B x e4 e32 vo slot C base k l tv us wr) (hk : Keeps S wr w2) (hS : ∀ i ∈ S, w.heap.size ≤ i ∨ vo = some i) (hB : B ∉ S) (hB2 : B < wr.heap.size) (hl' : ∀ g, l.ownBlock = some g → g ∉ S) (ht' : ∀ g, tv.ownBlock = some g → g ∉ S) (hu' : ∀ g, Of wr g e4 → g ∉ S) : KT w B x e4 e32 vo slot C base k l tv us w2 := by
  refine ⟨row_keeps h.hl hk hl', hk.cell h.c1 hB, fun j => (hk.frozen (p := ⟨B, j, none⟩) hB2 hB).trans (h.fr j), row_keeps h.ht hk ht', fun u hin => ?_, h.lo, ?_, fun j v hj hc => hk.cell (h.cs j v hj hc) hB⟩
  · obtain ⟨a, n, cap, e, hn, hc⟩ := h.hu u hin
    refine ⟨a, n, cap, e, hn, ?_⟩
    rcases hc with h0 | ⟨g, ea, g1, g2, g3, g4⟩
    · exact Or.inl h0
    · exact Or.inr ⟨g, ea, g1, g2, g3.keeps hk (hu' g g3), fun i hi => hk.cell (g4 i hi) (hu' g g3)⟩
  · refine (((h.kp.mono (S' := vo.toList ++ S) (by simp +contextual)).trans (hk.mono (by simp +contextual)))).strike (fun i hi hlt => ?_)
    rcases List.mem_append.1 hi with hi | hi
    · exact hi
    · rcases hS i hi with e | e
      · omega
      · simp [e]
theorem KT.alloc (h : KT w B x e4 e32 vo slot C base k l tv us wr) (hB2 : B < wr.heap.size) (o : Obj) : KT w B x e4 e32 vo slot C base k l tv us (wr.alloc o) :=
  h.keeps (S := []) ((Keeps.refl _ _).alloc _) (by simp) (by simp) hB2 (by simp) (by simp) (by simp)
/-- the list has grown -/
theorem KT.growL {g cap : Nat} (h : KT w B x e4 e32 vo slot C base k l tv us wr) (hne : e4 ≠ e32) (hB2 : B < wr.heap.size) (hBw : w.heap.size ≤ B) (hown : w2.ownsRow base e4 1 (.slice (some ⟨g, 0, none⟩) (k + 1) cap) (k + 1) (List.replicate k x ++ [x])) (hat : (l.ownBlock = some g ∧ wr.grownBy w2 (some g)) ∨ (g = wr.heap.size ∧ wr.grownBy w2 none)) :
    KT w B x e4 e32 vo slot C base (k + 1) (.slice (some ⟨g, 0, none⟩) (k + 1) cap) tv us w2 := by
  have hown' : w2.ownsRow base e4 1 (.slice (some ⟨g, 0, none⟩) (k + 1) cap) (k + 1) (List.replicate (k + 1) x) := by rw [List.replicate_succ']; exact hown
  have hcell : ∀ i, i < k + 1 → w2.cell? ⟨g, i, none⟩ = some x := fun i hi => by rw [World.ownsRow.cellAt hown' i (by omega)]; simp [hi]
  have hof : Of w2 g e4 := row_of hown' g rfl
  have hlt : ∀ g', tv.ownBlock = some g' → g' ≠ B := fun g' e => by have := (h.ht.lt g' e).1; omega
  rcases hat with ⟨e, hg⟩ | ⟨e, hg⟩
  · have hk : Keeps [g] wr w2 := (Keeps.refl _ _).grown hg (by simp)
    obtain ⟨l1, l2⟩ := h.lo g e
    have htg : ∀ g', tv.ownBlock = some g' → g' ∉ [g] := fun g' e' hin => by
      simp at hin
      subst hin
      exact (row_of h.hl g' e).ne (row_of h.ht g' e') hne rfl
    refine ⟨hown', hk.cell h.c1 (by simp; exact fun e => l2 e.symm), fun j => (hk.frozen (p := ⟨B, j, none⟩) hB2 (by simp; exact fun e => l2 e.symm)).trans (h.fr j), row_keeps h.ht hk htg, fun u hin => ?_, fun g' e' => ?_, ?_, fun j v hj hc => hk.cell (h.cs j v hj hc) (by simp; exact fun e => l2 e.symm)⟩
    · obtain ⟨a, n, cap', e1, hn, hc⟩ := h.hu u hin
      refine ⟨a, n, cap', e1, by omega, ?_⟩
      rcases hc with h0 | ⟨g', ea, g1, g2, g3, g4⟩
      · exact Or.inl h0
      · refine Or.inr ⟨g', ea, g1, g2, ?_, fun i hi => ?_⟩
        · by_cases eg : g' = g
          · rw [eg]; exact hof
          · exact g3.keeps hk (by simpa using eg)
        · by_cases eg : g' = g
          · rw [eg]; exact hcell i (by omega)
          · exact hk.cell (g4 i hi) (by simpa using eg)
    · have : g = g' := by have : some g = some g' := e'; simpa using this
      subst this
      exact ⟨l1, l2⟩
    · refine ((h.kp.mono (S' := vo.toList ++ [g]) (by simp +contextual)).trans (hk.mono (by simp))).strike (fun i hi hi2 => ?_)
      simp only [List.mem_append, List.mem_singleton] at hi
      rcases hi with hi | hi
      · exact hi
      · subst hi
        have := l1 (by omega)
        simp [this]
  · have hk : Keeps [] wr w2 := (Keeps.refl _ _).grown hg (by simp)
    have h' := h.keeps hk (by simp) (by simp) hB2 (by simp) (by simp) (by simp)
    refine ⟨hown', h'.c1, h'.fr, h'.ht, fun u hin => ?_, fun g' e' => ?_, h'.kp, h'.cs⟩
    · obtain ⟨a, n, cap', e1, hn, hc⟩ := h'.hu u hin
      exact ⟨a, n, cap', e1, by omega, hc⟩
    · have : g = g' := by have : some g = some g' := e'; simpa using this
      subst this
      exact ⟨fun hl => by omega, by omega⟩
/-- the list is set down among the others -/
theorem KT.growT {a : Option Addr} {cap : Nat} {tv' : Value} (h : KT w B x e4 e32 vo slot C base k (.slice a k cap) tv us wr) (hne : e4 ≠ e32) (hB2 : B < wr.heap.size) (hBw : w.heap.size ≤ B) (hown : w2.ownsRow (B + 1) e32 1 tv' (us.length + 1) (us ++ [.slice a k cap])) (hg : wr.grownBy w2 tv.ownBlock) :
    KT w B x e4 e32 vo slot C base k (.slice a k cap) tv' (us ++ [.slice a k cap]) (w2.setCell ⟨B, slot, none⟩ tv') := by
  have hk : Keeps tv.ownBlock.toList wr w2 := (Keeps.refl _ _).grown hg (fun j hj => Or.inl (by simp [hj]))
  have htB : ∀ g, tv.ownBlock = some g → B + 1 ≤ g := fun g e => (h.ht.lt g e).1
  have hBn : B ∉ tv.ownBlock.toList := fun hin => by have := htB B (by simpa using hin); omega
  have hap : ∀ g, Of wr g e4 → g ∉ tv.ownBlock.toList := fun g hof hin => hof.ne (row_of h.ht g (by simpa using hin)) hne rfl
  have hk2 : Keeps (B :: tv.ownBlock.toList) wr (w2.setCell ⟨B, slot, none⟩ tv') := (hk.mono (fun i hi => List.mem_cons_of_mem _ hi)).setCell ⟨B, slot, none⟩ (Or.inl (by simp)) _
  have hlB : ∀ g, (Value.slice a k cap).ownBlock = some g → g ∉ B :: tv.ownBlock.toList := fun g e hin => by
    rcases List.mem_cons.1 hin with e' | hin
    · exact (h.lo g e).2 e'
    · exact hap g (row_of h.hl g e) hin
  refine ⟨row_keeps h.hl hk2 hlB, World.cell?_setCell_same _ _ _ (hk.cell h.c1 hBn), fun j => by rw [World.frozen?_setCell]; exact (hk.frozen (p := ⟨B, j, none⟩) hB2 hBn).trans (h.fr j), ?_, fun u hin => ?_, h.lo, ?_, fun j v hj hc => by rw [World.cell?_setCell_other _ _ _ _ (by intro e; injection e; omega)]; exact hk.cell (h.cs j v hj hc) hBn⟩
  · rw [List.length_append]
    exact ownsRow_setCell_other hown (fun e => by have := (hown.lt B e).1; omega) _
  · rcases List.mem_append.1 hin with hin | hin
    · obtain ⟨a', n, cap', e1, hn, hc⟩ := h.hu u hin
      refine ⟨a', n, cap', e1, hn, ?_⟩
      rcases hc with h0 | ⟨g, ea, g1, g2, g3, g4⟩
      · exact Or.inl h0
      · have hgS : g ∉ B :: tv.ownBlock.toList := fun hin => by
          rcases List.mem_cons.1 hin with e' | hin
          · exact g2 e'
          · exact hap g g3 hin
        exact Or.inr ⟨g, ea, g1, g2, g3.keeps hk2 hgS, fun i hi => hk2.cell (g4 i hi) hgS⟩
    · simp at hin
      subst hin
      refine ⟨a, k, cap, rfl, Nat.le_refl _, ?_⟩
      rcases h.hl.2 with ⟨e, h0⟩ | ⟨g, cap', cur, e, hb, hh, rest⟩
      · exact Or.inl h0
      · simp at e
        obtain ⟨rfl, rfl⟩ := e
        have hgS := hlB g rfl
        obtain ⟨l1, l2⟩ := h.lo g rfl
        refine Or.inr ⟨g, rfl, l1, l2, (row_of h.hl g rfl).keeps hk2 hgS, fun i hi => hk2.cell ?_ hgS⟩
        rw [World.ownsRow.cellAt h.hl i (by omega)]
        simp [hi]
  · refine ((h.kp.mono (S' := vo.toList ++ (B :: tv.ownBlock.toList)) (by simp +contextual)).trans (hk2.mono (by simp +contextual))).strike (fun i hi hi2 => ?_)
    simp only [List.mem_append, List.mem_cons] at hi
    rcases hi with hi | hi | hi
    · exact hi
    · omega
    · have := htB i (by simpa using hi); omega
end

theorem infoLists : (Tryz.prog.info? 32).map (fun i => (i.zero, i.size, i.bytes)) = some (some (.slice none 0 0), 1, 24) := by kernel_rfl
theorem infoHoldP : (Tryz.prog.info? 51).map (fun i => (i.zero, i.size, i.bytes)) = some (some (.pointer none), 1, 8) := by kernel_rfl
theorem rowB_same (k : Nat) (b : Bool) : rowB k (fun _ => b) = List.replicate k (.bool b) := by
  unfold rowB
  rw [List.map_const', List.length_range]

/-- the last step of a hold: it is set down among the others -/
theorem WX.hold {Q : Nat → Prop} {w0 w w8 w9 : World} {own : Own} {W K : Nat} {ps : List Pr} {hs : List Nat} {hv hv' x tv : Value} {e4 e32 : TypeId} {vo : Option Nat} {slot base k : Nat} {C : Nat → Option Value} {l : Value} {us : List Value} (hW : WX Q w0 w own W ps hs K) (hvo : ∀ g, vo = some g → own g = (0, 0))
    (q1 : w.cell? ⟨W, 1, none⟩ = some hv) (q2 : w.ownsRow 0 51 1 hv hs.length (hs.map ptr)) (q3 : hv.ownBlock ≠ some W) (q4 : ∀ g, hv.ownBlock = some g → own g = (1, 0))
    (h4 : e4 ≠ 51) (h32 : e32 ≠ 51)
    (hT : KT w w.heap.size x e4 e32 vo slot C base k l tv us w8) (hus : us.length ≤ 9) (hkb : k ≤ 140737488355328) (hB2 : w.heap.size < w8.heap.size) (hown : w9.ownsRow 0 51 1 hv' (hs.length + 1) (hs.map ptr ++ [ptr w.heap.size])) (hg : w8.grownBy w9 hv.ownBlock) (hat : hv'.ownBlock = hv.ownBlock ∨ ∃ g, hv'.ownBlock = some g ∧ w8.heap.size ≤ g)
    (hok : ∀ (own' : Own), own' w.heap.size = (5, hs.length) → (∀ j v, j ≠ slot → C j = some v → (w9.setCell ⟨W, 1, none⟩ hv').cell? ⟨w.heap.size, j, none⟩ = some v) → (w9.setCell ⟨W, 1, none⟩ hv').cell? ⟨w.heap.size, slot, none⟩ = some tv → ListC (w9.setCell ⟨W, 1, none⟩ hv') own' (5, hs.length) tv x → HoldOk (w9.setCell ⟨W, 1, none⟩ hv') own' (5, hs.length) w.heap.size) :
    ∃ own', WX Q w0 (w9.setCell ⟨W, 1, none⟩ hv') own' W ps (hs ++ [w.heap.size]) (K + 1) ∧ ∀ (p : Addr) (u : Value), own p.block ≠ (1, 0) → vo ≠ some p.block → w.cell? p = some u → (w9.setCell ⟨W, 1, none⟩ hv').cell? p = some u := by
  obtain ⟨B, hB⟩ : ∃ B, B = w.heap.size := ⟨_, rfl⟩
  rw [← hB] at hT hB2 hown hok ⊢
  obtain ⟨w', hw'⟩ : ∃ w', w' = w9.setCell ⟨W, 1, none⟩ hv' := ⟨_, rfl⟩
  rw [← hw'] at hok ⊢
  have hWl : W < B := by rw [hB]; exact hW.lt
  have hk9 : Keeps hv.ownBlock.toList w8 w9 := (Keeps.refl _ _).grown hg (fun j hj => Or.inl (by simp [hj]))
  have hk' : Keeps (W :: hv.ownBlock.toList) w8 w' := by rw [hw']; exact (hk9.mono (fun i hi => List.mem_cons_of_mem _ hi)).setCell ⟨W, 1, none⟩ (Or.inl (by simp)) _
  have hkw : Keeps (vo.toList ++ W :: hv.ownBlock.toList) w w' := (hT.kp.mono (by simp +contextual)).trans (hk'.mono (by simp +contextual))
  have hvl : ∀ g, hv.ownBlock = some g → g < B := fun g e => by rw [hB]; exact (q2.lt g e).2
  let T : Tag → Prop := fun y => y = (0, 0) ∨ y = (1, 0)
  have hT0 : ∀ y, y ≠ (0, 0) → y ≠ (1, 0) → ¬ T y := fun y h1 h2 h => h.elim h1 h2
  have hon : Onlys own T w w' := ⟨_, hkw, fun b hb => by
    simp only [List.mem_append, Option.mem_toList, List.mem_cons] at hb
    rcases hb with hb | hb | hb
    · exact Or.inl (Or.inl (hvo b hb))
    · exact Or.inl (Or.inr (by rw [hb]; exact hW.ow))
    · exact Or.inl (Or.inr (q4 b hb))⟩
  obtain ⟨own', hown'⟩ : ∃ own' : Own, own' = fun b => if b < B then (if own b = (0, 0) then (5, hs.length) else own b) else if hv'.ownBlock = some b then (1, 0) else (5, hs.length) := ⟨_, rfl⟩
  have o1 : ∀ b tg, b < w.heap.size → tg ≠ (0, 0) → own b = tg → own' b = tg := fun b tg hb hne e => by
    rw [hown']
    simp only
    rw [if_pos (by omega), if_neg (by rw [e]; exact hne), e]
  have o2 : ∀ b, b < B → own b = (0, 0) → own' b = (5, hs.length) := fun b hb e => by
    rw [hown']
    simp only
    rw [if_pos hb, if_pos e]
  have o3 : ∀ b, B ≤ b → hv'.ownBlock ≠ some b → own' b = (5, hs.length) := fun b hb e => by
    rw [hown']
    simp only
    rw [if_neg (by omega), if_neg e]
  obtain ⟨pv, p1, p2, p3, p4⟩ := hW.c0
  have hdiff : (44 : TypeId) ≠ 51 := by decide
  have npv : ∀ g, pv.ownBlock = some g → g ∉ vo.toList ++ W :: hv.ownBlock.toList := fun g e hin => by
    simp only [List.mem_append, Option.mem_toList, List.mem_cons] at hin
    rcases hin with hin | hin | hin
    · have h1 := hvo g hin
      rw [p4 g e] at h1
      simp at h1
    · exact p3 (by rw [e, hin])
    · exact rows_apart p2 q2 hdiff g e hin
  have nW : W ∉ vo.toList := fun hin => by
    have h1 := hvo W (by simpa using hin)
    rw [hW.ow] at h1
    simp at h1
  have nW2 : W ∉ hv.ownBlock.toList := by simpa using q3
  have hc9 : ∀ j v, w.cell? ⟨W, j, none⟩ = some v → w9.cell? ⟨W, j, none⟩ = some v := fun j v hc => hk9.cell (hT.kp.cell hc nW) nW2
  have hW2 := hW.lt
  have hvW : hv'.ownBlock ≠ some W := by
    rcases hat with e | ⟨g, e, hgl⟩
    · rw [e]; exact q3
    · rw [e]; intro e2; simp at e2; omega
  have hof9 : ∀ g, Of w8 g e4 → Of w' g e4 ∨ g = W ∨ hv.ownBlock = some g := fun g h => by
    by_cases e1 : g = W
    · exact Or.inr (Or.inl e1)
    · by_cases e2 : hv.ownBlock = some g
      · exact Or.inr (Or.inr e2)
      · exact Or.inl (h.keeps hk' (by simp [e1, e2]))
  have hownw' : w'.ownsRow 0 51 1 hv' (hs.length + 1) (hs.map ptr ++ [ptr B]) := by rw [hw']; exact ownsRow_setCell_other hown hvW _
  have hv'of : ∀ g, hv'.ownBlock = some g → Of w' g 51 := row_of hownw'
  have hv8of : ∀ g, hv.ownBlock = some g → Of w8 g 51 := fun g e => (row_of q2 g e).keeps hT.kp (fun hin => by
    have h1 := hvo g (by simpa using hin)
    rw [q4 g e] at h1
    simp at h1)
  have hlist : ListC w' own' (5, hs.length) tv x := by
    have htB : ∀ g, tv.ownBlock = some g → B + 1 ≤ g := fun g e => (hT.ht.lt g e).1
    have htS : ∀ g, tv.ownBlock = some g → g ∉ W :: hv.ownBlock.toList := fun g e hin => by
      have h1 := htB g e
      rcases List.mem_cons.1 hin with e' | hin
      · omega
      · have := hvl g (by simpa using hin); omega
    have htw' := row_keeps hT.ht hk' htS
    obtain ⟨a, n, cap, e, hn, hcs⟩ : ∃ a n cap, tv = .slice a n cap ∧ n = us.length ∧ (n = 0 ∨ ∃ g, a = some ⟨g, 0, none⟩) := by
      rcases hT.ht.2 with ⟨e, h0⟩ | ⟨g, cap, cur, e, _⟩
      · exact ⟨none, 0, 0, e, h0.symm, Or.inl rfl⟩
      · exact ⟨_, _, cap, e, rfl, Or.inr ⟨g, rfl⟩⟩
    refine ⟨a, n, cap, e, by omega, ?_⟩
    rcases hcs with h0 | ⟨g, ea⟩
    · exact Or.inl h0
    · subst ea
      subst e
      refine Or.inr ⟨g, rfl, o3 g (by have := htB g rfl; omega) (fun e => (hv'of g e).ne (row_of htw' g rfl) (fun e => h32 e.symm) rfl), fun i hi => ?_⟩
      have hi2 : i < us.length := by omega
      refine ⟨us[i], ?_, ?_⟩
      · rw [hn] at htw'
        rw [World.ownsRow.cellAt htw' i (by omega)]
        simp [hi2]
      · obtain ⟨a', n', cap', e', hn', hc⟩ := hT.hu us[i] (List.getElem_mem hi2)
        refine ⟨a', n', cap', e', by omega, ?_⟩
        rcases hc with h0 | ⟨g', ea', g1, g2, g3, g4⟩
        · exact Or.inl h0
        · have gW : g' ≠ W := by
            intro e
            have h1 := hvo g' (g1 (by omega))
            rw [e, hW.ow] at h1
            simp at h1
          have gv : hv.ownBlock ≠ some g' := fun e => g3.ne (hv8of g' e) h4 rfl
          have gS : g' ∉ W :: hv.ownBlock.toList := by simp [gW, gv]
          have gof := g3.keeps hk' gS
          refine Or.inr ⟨g', ea', ?_, fun i hi => hk'.cell (g4 i hi) gS⟩
          by_cases hl : g' < B
          · exact o2 g' hl (hvo g' (g1 hl))
          · exact o3 g' (by omega) (fun e => (hv'of g' e).ne gof (fun e => h4 e.symm) rfl)
  have oB : own' B = (5, hs.length) := o3 B (Nat.le_refl _) (fun e => by
    rcases hat with e2 | ⟨g, e2, hgl⟩
    · rw [e2] at e; have := hvl B e; omega
    · rw [e2] at e; simp at e; omega)
  refine ⟨own', ⟨low_keeps hW.low hW.mine hon (hT0 _ (by simp) (by simp)), fun b hb => o1 b _ (by have := hW.low.size; omega) (by simp) (hW.mine b hb), o1 W _ hW2 (by simp) hW.ow, fun j => ?_, ⟨pv, ?_, row_keeps p2 hkw npv, p3, fun g hg => o1 g _ (p2.lt g hg).2 (by simp) (p4 g hg)⟩, ⟨hv', ?_, ?_, hvW, fun g hg' => ?_⟩, ?_, fun i y hi hy => ?_, fun j y hy => ?_, Nat.le_succ_of_le hW.kp, by simp; exact hW.kh⟩, fun p u n1 n2 hc => hkw.cell hc (fun hin => ?_)⟩
  · rw [hw', World.frozen?_setCell, hk9.frozen (p := ⟨W, j, none⟩) (by show W < _; omega) nW2, hT.kp.frozen (p := ⟨W, j, none⟩) hW2 nW]
    exact hW.fr j
  · rw [hw', World.cell?_setCell_other _ _ _ _ (by simp)]
    exact hc9 0 _ p1
  · rw [hw']
    exact World.cell?_setCell_same _ _ _ (hc9 1 _ q1)
  · have e1 : (hs ++ [B]).length = hs.length + 1 := by simp
    have e2 : (hs ++ [B]).map ptr = hs.map ptr ++ [ptr B] := by simp
    rw [e1, e2]
    exact hownw'
  · rcases hat with e | ⟨g2, e, hgl⟩
    · rw [e] at hg'
      exact o1 g _ (q2.lt g hg').2 (by simp) (q4 g hg')
    · have e3 : g2 = g := by rw [e] at hg'; simpa using hg'
      subst e3
      rw [hown']
      simp only
      rw [if_neg (by omega), if_pos hg']
  · rw [hw', World.cell?_setCell_other _ _ _ _ (by simp)]
    exact hc9 2 _ hW.c2
  · exact ((hW.prs i y hi hy).frame hon (hT0 _ (by simp) (by simp)) (hT0 _ (by simp) (by simp)) (hT0 _ (by simp) (by simp)) (fun b hb e => o1 b _ hb (by simp) e) (fun b hb e => o1 b _ hb (by simp) e) (fun b hb e => o1 b _ hb (by simp) e)).wider (by omega)
  · by_cases hj : j < hs.length
    · rw [List.getElem?_append_left hj] at hy
      exact (hW.hds j y hy).frame hon (hT0 _ (by simp) (by simp)) (fun b hb e => o1 b _ hb (by simp) e)
    · rw [List.getElem?_append_right (by omega)] at hy
      have hj2 : j = hs.length := by
        have : j - hs.length < 1 := by
          false_or_by_contra
          rename_i hc
          rw [List.getElem?_eq_none (by simp; omega)] at hy
          cases hy
        omega
      subst hj2
      simp at hy
      subst hy
      have nB : B ∉ W :: hv.ownBlock.toList := fun hin => by
        rcases List.mem_cons.1 hin with e | hin
        · omega
        · have := hvl B (by simpa using hin); omega
      exact hok own' oB (fun j v hj hc => hk'.cell (hT.cs j v hj hc) nB) (hk'.cell hT.c1 nB) hlist
  · simp only [List.mem_append, Option.mem_toList, List.mem_cons] at hin
    rcases hin with hin | hin | hin
    · exact n2 hin
    · exact n1 (by rw [hin]; exact hW.ow)
    · exact n1 (q4 _ hin)

end Go.Proofs.YtmgjegokkbghlaaGreat
