/- The document's store, told plainly: its calls. -/
import Derived.Test.YtmgjegokkbghlaaGreatPairB
import Derived.Test.YtmgjegokkbghlaaGreatRefRel
namespace Go.Proofs.YtmgjegokkbghlaaGreat
open Go.RowKit Go.Maps Bdd
set_option linter.unusedVariables false

/-- THE DOCUMENT'S STORE holds that, and its blocks are its own -/
def RW (w : World) (own : Own) (tg : Tag) (r : Nat) (A : Abs) : Prop := ∃ ov lv, RS w r A ov lv ∧ own r = tg ∧ (∀ g, ov.ownBlock = some g → own g = tg) ∧ ∀ g, lv.ownBlock = some g → own g = tg
theorem RS.lr {w : World} {r : Nat} {A : Abs} {ov lv : Value} (h : RS w r A ov lv) : r < w.heap.size := by
  obtain ⟨o, _, h⟩ := h
  exact cell_lt (p := ⟨r, 0, none⟩) h.c0
theorem RS.lo {w : World} {r : Nat} {A : Abs} {ov lv : Value} (h : RS w r A ov lv) (hA : AbsOk A) : ∀ g, ov.ownBlock = some g → g < w.heap.size := by
  obtain ⟨o, _, h⟩ := h
  obtain ⟨ob, cap, e, h1, h2, h3⟩ := h.ord
  intro g hg
  rw [e] at hg
  have : g = ob := by have : some ob = some g := hg; simpa using this.symm
  subst this
  exact cell_lt (p := ⟨g, 0 + 0, none⟩) (h3 0 (by have := hA.n1; omega))
theorem RS.ll {w : World} {r : Nat} {A : Abs} {ov lv : Value} (h : RS w r A ov lv) : ∀ g, lv.ownBlock = some g → g < w.heap.size := by
  obtain ⟨o, _, h⟩ := h
  exact fun g hg => (h.held.own.lt g hg).2
theorem RW.frame {w w' : World} {own own' : Own} {tg : Tag} {r : Nat} {A : Abs} {T : Tag → Prop} (h : RW w own tg r A) (hA : AbsOk A) (ho : Onlys own T w w') (hne : ¬ T tg) (hown : ∀ b, b < w.heap.size → own b = tg → own' b = tg) : RW w' own' tg r A := by
  obtain ⟨ov, lv, h1, h2, h3, h4⟩ := h
  obtain ⟨S, hk, g⟩ := ho
  have no : ∀ b, b < w.heap.size → own b = tg → b ∉ S := fun b hb e hin => by
    rcases g b hin with e' | e'
    · exact hne (by rw [← e]; exact e')
    · omega
  refine ⟨ov, lv, h1.keeps hk (no r h1.lr h2) (fun g hg => no g (h1.ll g hg) (h4 g hg)) (fun g hg => no g (h1.lo hA g hg) (h3 g hg)), hown r h1.lr h2, fun g hg => hown g (h1.lo hA g hg) (h3 g hg), fun g hg => hown g (h1.ll g hg) (h4 g hg)⟩
theorem RW.keeps {w w' : World} {own own' : Own} {tg : Tag} {r : Nat} {A : Abs} (h : RW w own tg r A) (hA : AbsOk A) (hk : Keeps [] w w') (hown : ∀ b, b < w.heap.size → own b = tg → own' b = tg) : RW w' own' tg r A := by
  obtain ⟨ov, lv, h1, h2, h3, h4⟩ := h
  refine ⟨ov, lv, h1.keeps hk (by simp) (by simp) (by simp), hown r h1.lr h2, fun g hg => hown g (h1.lo hA g hg) (h3 g hg), fun g hg => hown g (h1.ll g hg) (h4 g hg)⟩

/-- what the document's store makes of it -/
def MadeR (w : World) (own : Own) (tg : Tag) (r : Nat) (A : Abs) (m : Int ⊕ Fun) (e : Ending) (w' : World) : Prop :=
  e = .returned (.tuple #[.int .i64 (madeOf A m).1, .int .i64 (madeOf A m).2.1]) ∧ RW w' (newOwn own w tg) tg r (madeOf A m).2.2 ∧ Only own tg w w'
theorem MadeR.no {w w' : World} {own : Own} {tg : Tag} {r : Nat} {A : Abs} {x : Int} {e : Ending} (hA : AbsOk A) (h : RW w own tg r A) (he : e = .returned (.tuple #[.int .i64 0, .int .i64 x])) (hk : Keeps [] w w') : MadeR w own tg r A (.inl x) e w' :=
  ⟨he, h.keeps hA hk (fun b hb e => newOwn_stays hb e), Only.nil hk⟩
theorem MadeR.yes {w w' : World} {own : Own} {tg : Tag} {r : Nat} {A : Abs} {ov lv : Value} {F : Fun} {e : Ending} (hA : AbsOk A) (h1 : RS w r A ov lv) (h2 : own r = tg) (h3 : ∀ g, ov.ownBlock = some g → own g = tg) (h4 : ∀ g, lv.ownBlock = some g → own g = tg) (hh : ∃ x y, e = .returned (.tuple #[.int .i64 x, .int .i64 y]) ∧ RMade w r A ov lv F x y w') : MadeR w own tg r A (.inr F) e w' := by
  obtain ⟨x, y, rfl, rfl, rfl, lv', q1, q2, q3⟩ := hh
  refine ⟨rfl, ⟨ov, lv', q1, newOwn_same h2, fun g hg => newOwn_same (h3 g hg), fun g hg => ?_⟩, Only.of q2 (fun b hb => ?_)⟩
  · rcases q3 with e | ⟨g', e, hg'⟩
    · exact newOwn_same (h4 g (by rw [← e]; exact hg))
    · have : g = g' := by rw [hg] at e; simpa using e
      subst this
      exact newOwn_new hg'
  · simp only [List.mem_cons, Option.mem_toList] at hb
    rcases hb with rfl | hb
    · exact h2
    · exact h4 b hb

section
variable {w : World} {own : Own} {tg : Tag} {r : Nat} {A : Abs}

/-- what must be known of a function that is made: the program's answer has shown it -/
def Known1 (A : Abs) (m : Int ⊕ Fun) : Prop := ∀ F, m = .inr F → A.fs.length < 60 → ∃ sz, Cnts A.n A.o (Vof (A.add F).fs) sz

theorem rs_constant (hA : AbsOk A) (h : RW w own tg r A) (hla : A.la < 4611686018427387904) (a b c : Int) (hc : Known1 A (mk A 2 a b c)) :
    Calls Tryz.prog 32 #[.pointer (some ⟨r, 0, none⟩), .bool (a.tmod 2 != 0)] w (MadeR w own tg r A (mk A 2 a b c)) := by
  obtain ⟨ov, lv, h1, h2, h3, h4⟩ := h
  have h1' := h1
  obtain ⟨o, _, hR⟩ := h1'
  exact (rconstant_any hA.n8 hR.c0 _ (rhold_by h1 hA _ (hc _ rfl) hla)).mono (fun e w' hh => MadeR.yes hA h1 h2 h3 h4 hh)
theorem rs_variable (hA : AbsOk A) (h : RW w own tg r A) (hla : A.la < 4611686018427387904) (a b c : Int) (hc : Known1 A (mk A 3 a b c)) :
    Calls Tryz.prog 33 #[.pointer (some ⟨r, 0, none⟩), .int .i64 a] w (MadeR w own tg r A (mk A 3 a b c)) := by
  have h0 := h
  obtain ⟨ov, lv, h1, h2, h3, h4⟩ := h
  have h1' := h1
  obtain ⟨o, _, hR⟩ := h1'
  by_cases hv : 0 ≤ a ∧ a < (A.n : Int)
  · have e : mk A 3 a b c = .inr (fun x => x a) := by simp [mk, hv]
    rw [e] at hc ⊢
    obtain ⟨v, rfl⟩ := Int.eq_ofNat_of_zero_le hv.1
    exact (rvariable_any hA.n8 hR.c0 (by omega) (rhold_by h1 hA _ (hc _ rfl) hla)).mono (fun e w' hh => MadeR.yes hA h1 h2 h3 h4 hh)
  · have e : mk A 3 a b c = .inl 3 := by simp [mk, hv]
    rw [e]
    exact (rvariable_no hR.c0 (by omega)).mono (fun e w' hh => MadeR.no hA h0 hh.1 (hh.2 ▸ Keeps.refl _ _))
theorem rs_not (hA : AbsOk A) (h : RW w own tg r A) (hla : A.la < 4611686018427387904) (a b c : Int) (hc : Known1 A (mk A 4 a b c)) :
    Calls Tryz.prog 34 #[.pointer (some ⟨r, 0, none⟩), .int .i64 a] w (MadeR w own tg r A (mk A 4 a b c)) := by
  have h0 := h
  obtain ⟨ov, lv, h1, h2, h3, h4⟩ := h
  have h1' := h1
  obtain ⟨o, _, hR⟩ := h1'
  have hl : (hsOf A.n A.fs).length ≤ 60 := by rw [hsOf_length]; exact hA.len
  cases hf : Vof A.fs a with
  | some F =>
    have e : mk A 4 a b c = .inr (fun x => !F x) := by simp [mk, hf]
    rw [e] at hc ⊢
    exact (rnot_any hA.n8 hR.c0 hR.held hl (hsOf_some hf) rfl (rhold_by h1 hA _ (hc _ rfl) hla)).mono (fun e w' hh => MadeR.yes hA h1 h2 h3 h4 hh)
  | none =>
    have e : mk A 4 a b c = .inl 2 := by simp [mk, hf]
    rw [e]
    exact (rnot_no hR.held hl (by rw [hsOf_in, hf]; rfl)).mono (fun e w' hh => MadeR.no hA h0 hh.1 (hh.2 ▸ Keeps.refl _ _))
theorem rs_apply (hA : AbsOk A) (h : RW w own tg r A) (hla : A.la < 4611686018427387904) (a b c : Int) (hc : Known1 A (mk A 5 a b c)) :
    Calls Tryz.prog 35 #[.pointer (some ⟨r, 0, none⟩), .int .i64 a, .int .i64 b, .int .i64 c] w (MadeR w own tg r A (mk A 5 a b c)) := by
  have h0 := h
  obtain ⟨ov, lv, h1, h2, h3, h4⟩ := h
  have h1' := h1
  obtain ⟨o, _, hR⟩ := h1'
  have hl : (hsOf A.n A.fs).length ≤ 60 := by rw [hsOf_length]; exact hA.len
  cases hf : Vof A.fs b with
  | none =>
    have e : mk A 5 a b c = .inl 2 := by simp [mk, hf]
    rw [e]
    exact (rapply_no hR.held hl (by rw [hsOf_in, hf]; rfl)).mono (fun e w' hh => MadeR.no hA h0 hh.1 (hh.2 ▸ Keeps.refl _ _))
  | some F =>
    cases hf2 : Vof A.fs c with
    | none =>
      have e : mk A 5 a b c = .inl 2 := by simp [mk, hf, hf2]
      rw [e]
      exact (rapply_no hR.held hl (by rw [hsOf_in, hsOf_in, hf, hf2]; rfl)).mono (fun e w' hh => MadeR.no hA h0 hh.1 (hh.2 ▸ Keeps.refl _ _))
    | some G =>
      by_cases hv : 0 ≤ a ∧ a ≤ 3
      · have e : mk A 5 a b c = .inr (fun x => app a (F x) (G x)) := by simp [mk, hf, hf2, hv]
        rw [e] at hc ⊢
        exact (rapply_any hA.n8 hR.c0 hR.held hl hv.1 hv.2 (hsOf_hasT hf) (hsOf_hasT hf2) (rhold_by h1 hA _ (hc _ rfl) hla)).mono (fun e w' hh => MadeR.yes hA h1 h2 h3 h4 hh)
      · have e : mk A 5 a b c = .inl 1 := by simp [mk, hf, hf2, hv]
        rw [e]
        exact (rapply_range hR.held hl (by rw [hsOf_in, hsOf_in, hf, hf2]; rfl) (by omega)).mono (fun e w' hh => MadeR.no hA h0 hh.1 (hh.2 ▸ Keeps.refl _ _))
theorem rs_choose (hA : AbsOk A) (h : RW w own tg r A) (hla : A.la < 4611686018427387904) (a b c : Int) (hc : Known1 A (mk A 6 a b c)) :
    Calls Tryz.prog 36 #[.pointer (some ⟨r, 0, none⟩), .int .i64 a, .int .i64 b, .int .i64 c] w (MadeR w own tg r A (mk A 6 a b c)) := by
  have h0 := h
  obtain ⟨ov, lv, h1, h2, h3, h4⟩ := h
  have h1' := h1
  obtain ⟨o, _, hR⟩ := h1'
  have hl : (hsOf A.n A.fs).length ≤ 60 := by rw [hsOf_length]; exact hA.len
  have no : ((Vof A.fs a).isSome && (Vof A.fs b).isSome && (Vof A.fs c).isSome) = false → Calls Tryz.prog 36 #[.pointer (some ⟨r, 0, none⟩), .int .i64 a, .int .i64 b, .int .i64 c] w (MadeR w own tg r A (mk A 6 a b c)) := by
    intro hno
    have e : mk A 6 a b c = .inl 2 := by
      unfold mk
      rw [if_neg (by omega), if_neg (by omega), if_neg (by omega), if_neg (by omega)]
      split
      · rename_i q1 q2 q3
        rw [q1, q2, q3] at hno
        simp at hno
      · rfl
    rw [e]
    exact (rchoose_no hR.held hl (by rw [hsOf_in, hsOf_in, hsOf_in]; exact hno)).mono (fun e w' hh => MadeR.no hA h0 hh.1 (hh.2 ▸ Keeps.refl _ _))
  cases hf : Vof A.fs a with
  | none => exact no (by rw [hf]; rfl)
  | some F =>
    cases hf2 : Vof A.fs b with
    | none => exact no (by rw [hf, hf2]; rfl)
    | some G =>
      cases hf3 : Vof A.fs c with
      | none => exact no (by rw [hf, hf2, hf3]; rfl)
      | some K =>
        have e : mk A 6 a b c = .inr (fun x => if F x then G x else K x) := by simp [mk, hf, hf2, hf3]
        rw [e] at hc ⊢
        exact (rchoose_any hA.n8 hR.c0 hR.held hl (hsOf_hasT hf) (hsOf_hasT hf2) (hsOf_hasT hf3) (rhold_by h1 hA _ (hc _ rfl) hla)).mono (fun e w' hh => MadeR.yes hA h1 h2 h3 h4 hh)

theorem rs_release (hA : AbsOk A) (h : RW w own tg r A) (f : Int) :
    Calls Tryz.prog 17 #[.pointer (some ⟨r, 0, none⟩), .int .i64 f] w fun e w' => e = .returned (.int .i64 (relOf A f).1) ∧ RW w' (newOwn own w tg) tg r (relOf A f).2 ∧ Only own tg w w' := by
  have h0 := h
  obtain ⟨ov, lv, h1, h2, h3, h4⟩ := h
  have h1' := h1
  obtain ⟨o, ho, hR⟩ := h1'
  have hl : (hsOf A.n A.fs).length ≤ 60 := by rw [hsOf_length]; exact hA.len
  cases hv : Vof A.fs f with
  | none =>
    have e : relOf A f = (2, A) := by simp [relOf, hv]
    rw [e]
    refine (rrelease_no hR.held hl (by rw [hsOf_in, hv]; rfl)).mono ?_
    rintro e w' ⟨rfl, rfl⟩
    exact ⟨rfl, h0.keeps hA (Keeps.refl _ _) (fun b hb e => newOwn_stays hb e), Only.nil (Keeps.refl _ _)⟩
  | some F =>
    have e : relOf A f = (0, A.del f) := by simp [relOf, hv]
    rw [e]
    refine (rrelease_any hR.held hl (hR.fr 4) (by rw [hsOf_in, hv]; rfl)).mono ?_
    rintro e w' ⟨rfl, v, w1, hown, hk, rfl⟩
    rw [hsOf_left] at hown
    have hR1 := hR.keeps hk (by simp) (by simp) (by simp)
    have hlr : r < w.heap.size := h1.lr
    obtain ⟨ob, cap, e1, q1, q2, q3⟩ := hR1.ord
    have hvb : ∀ g, v.ownBlock = some g → w.heap.size ≤ g := fun g hg => (hown.lt g hg).1
    have hob : ob < w.heap.size := h1.lo hA ob (by rw [e1]; rfl)
    have oth : ∀ j u, j ≠ 4 → w1.cell? ⟨r, j, none⟩ = some u → (w1.setCell ⟨r, 4, none⟩ v).cell? ⟨r, j, none⟩ = some u := fun j u hj hc => by
      rw [World.cell?_setCell_other _ _ _ _ (by intro e; injection e; omega)]
      exact hc
    have hks : Keeps [r] w (w1.setCell ⟨r, 4, none⟩ v) := (hk.mono (by simp)).setCell _ (Or.inl (by simp)) _
    refine ⟨rfl, ⟨ov, v, ⟨o, ho, ⟨oth 0 _ (by omega) hR1.c0, oth 1 _ (by omega) hR1.c1, oth 2 _ (by omega) hR1.c2, oth 3 _ (by omega) hR1.c3, fun j => by rw [World.frozen?_setCell]; exact hR1.fr j, ⟨World.cell?_setCell_same _ _ _ hR1.held.c4, ?_⟩, ⟨ob, cap, e1, q1, fun e => by have := hvb ob e; omega, fun k hk' => ?_⟩, fun e => by have := hvb r e; omega⟩⟩, newOwn_same h2, fun g hg => newOwn_same (h3 g hg), fun g hg => newOwn_new (hvb g hg)⟩, Only.of hks (fun b hb => by simp at hb; rw [hb]; exact h2)⟩
    · rw [hsOf_length] at hown
      rw [hsOf_length]
      exact ownsRow_setCell_other (row_mono hown (Nat.zero_le _)) (fun e => by have := hvb r e; omega) _
    · rw [World.cell?_setCell_far _ _ _ _ (by simpa using Ne.symm q1)]
      exact q3 k hk'
end

end Go.Proofs.YtmgjegokkbghlaaGreat
