/- Whose a block is; the program's store, told plainly; its calls. -/
import Derived.Test.YtmgjegokkbghlaaGreatPairA
import Derived.Test.YtmgjegokkbghlaaGreatProgNo
namespace Go.Proofs.YtmgjegokkbghlaaGreat
open Go.RowKit Go.Maps Bdd
set_option linter.unusedVariables false

/-- whose a block is: (0, 0) nobody's; (1, 0) the law's; (2, i), (3, i), (4, i) the stores' of the pair i; (5, j) the list's j -/
abbrev Tag := Nat × Nat
abbrev Own := Nat → Tag
def newOwn (own : Own) (w : World) (t : Tag) : Own := fun b => if b < w.heap.size then own b else t
/-- what is changed is of those, or new -/
def Onlys (own : Own) (T : Tag → Prop) (w w' : World) : Prop := ∃ S, Keeps S w w' ∧ ∀ b ∈ S, T (own b) ∨ w.heap.size ≤ b
/-- what is changed is t's, or new -/
abbrev Only (own : Own) (t : Tag) (w w' : World) : Prop := Onlys own (fun x => x = t) w w'
theorem Only.of {own : Own} {t : Tag} {w w' : World} {S : List Nat} (hk : Keeps S w w') (h : ∀ b ∈ S, own b = t) : Only own t w w' := ⟨S, hk, fun b hb => Or.inl (h b hb)⟩
theorem Onlys.nil {own : Own} {T : Tag → Prop} {w w' : World} (hk : Keeps [] w w') : Onlys own T w w' := ⟨[], hk, by simp⟩
theorem Only.nil {own : Own} {t : Tag} {w w' : World} (hk : Keeps [] w w') : Only own t w w' := Onlys.nil hk
theorem Onlys.size {own : Own} {T : Tag → Prop} {w w' : World} (h : Onlys own T w w') : w.heap.size ≤ w'.heap.size := by
  obtain ⟨S, hk, _⟩ := h
  exact hk.size
/-- a cell that is not theirs -/
theorem Onlys.cell {own : Own} {T : Tag → Prop} {w w' : World} (h : Onlys own T w w') {p : Addr} {v : Value} (hc : w.cell? p = some v) (hp : ¬ T (own p.block)) : w'.cell? p = some v := by
  obtain ⟨S, hk, g⟩ := h
  refine hk.cell hc (fun hin => ?_)
  rcases g _ hin with e | e
  · exact hp e
  · have := cell_lt hc; omega
theorem Onlys.frozen {own : Own} {T : Tag → Prop} {w w' : World} (h : Onlys own T w w') {p : Addr} (hlt : p.block < w.heap.size) (hp : ¬ T (own p.block)) : w'.frozen? p = w.frozen? p := by
  obtain ⟨S, hk, g⟩ := h
  refine hk.frozen hlt (fun hin => ?_)
  rcases g _ hin with e | e
  · exact hp e
  · omega
theorem row_keeps {w w' : World} {base : Nat} {e : TypeId} {size : Nat} {v : Value} {n : Nat} {xs : List Value} {S : List Nat} (h : w.ownsRow base e size v n xs) (hk : Keeps S w w') (hS : ∀ g, v.ownBlock = some g → g ∉ S) : w'.ownsRow base e size v n xs := by
  refine ⟨h.1, ?_⟩
  rcases h.2 with h' | ⟨g, cap, cur, rfl, hbg, hg, rest⟩
  · exact .inl h'
  · refine .inr ⟨g, cap, cur, rfl, hbg, ?_, rest⟩
    rw [hk.block g (Array.getElem?_eq_some_iff.1 hg).1 (hS g rfl)]
    exact hg
theorem Onlys.row {own : Own} {T : Tag → Prop} {w w' : World} {base : Nat} {e : TypeId} {size : Nat} {v : Value} {n : Nat} {xs : List Value} (ho : Onlys own T w w') (h : w.ownsRow base e size v n xs) (hp : ∀ g, v.ownBlock = some g → ¬ T (own g)) : w'.ownsRow base e size v n xs := by
  obtain ⟨S, hk, q⟩ := ho
  refine row_keeps h hk (fun g hg hin => ?_)
  rcases q _ hin with e | e
  · exact hp g hg e
  · have := (h.lt g hg).2; omega
theorem newOwn_stays {own : Own} {w : World} {t tg : Tag} {b : Nat} (h : b < w.heap.size) (e : own b = tg) : newOwn own w t b = tg := by unfold newOwn; rw [if_pos h]; exact e
theorem newOwn_old {own : Own} {w : World} {t : Tag} {b : Nat} (h : b < w.heap.size) : newOwn own w t b = own b := by unfold newOwn; rw [if_pos h]
theorem newOwn_new {own : Own} {w : World} {t : Tag} {b : Nat} (h : w.heap.size ≤ b) : newOwn own w t b = t := by unfold newOwn; rw [if_neg (by omega)]
theorem newOwn_same {own : Own} {w : World} {t : Tag} {b : Nat} (h : own b = t) : newOwn own w t b = t := by
  unfold newOwn
  split
  · exact h
  · rfl

theorem St.keepsB {w w' : World} {s hb t bn bm L nh sz : Nat} {od : Ord L} {lim given lb : Int} {V : Int → Option Fun} {S : List Nat} (h : St w s hb t bn bm od nh sz lim given V lb) (hk : Keeps S w w') (hS : ∀ i ∈ [s, hb, t, bn, bm, od.blk], i ∉ S) : St w' s hb t bn bm od nh sz lim given V lb := by
  obtain ⟨N, last, H, hst, r⟩ := h
  exact ⟨N, last, H, hst.keepsB hk hS, r⟩
theorem St.lts {w : World} {s hb t bn bm L nh sz : Nat} {od : Ord L} {lim given lb : Int} {V : Int → Option Fun} (h : St w s hb t bn bm od nh sz lim given V lb) : ∀ i ∈ [s, hb, t, bn, bm, od.blk], i < w.heap.size := by
  obtain ⟨N, last, H, hst, r⟩ := h
  exact hst.lts
theorem St.wider {w : World} {s hb t bn bm L nh sz : Nat} {od : Ord L} {lim given lb lb' : Int} {V : Int → Option Fun} (h : St w s hb t bn bm od nh sz lim given V lb) (hl : lb ≤ lb') : St w s hb t bn bm od nh sz lim given V lb' := by
  obtain ⟨N, last, H, h1, h2, h3, h4, r⟩ := h
  exact ⟨N, last, H, h1, h2, h3, by omega, r⟩

/-- THE PROGRAM'S STORE holds that -/
def PS (w : World) (own : Own) (tg : Tag) (s : Nat) (A : Abs) (lb : Int) : Prop :=
  ∃ (hb t bn bm : Nat) (od : Ord A.n) (sz : Nat), St w s hb t bn bm od A.fs.length sz A.lim A.la (Vof A.fs) lb ∧ (∀ k, 0 ≤ k → k < (A.n : Int) → od.at_ k = A.o k) ∧ ∀ b ∈ [s, hb, t, bn, bm, od.blk], own b = tg
theorem PS.frame {w w' : World} {own own' : Own} {tg : Tag} {s : Nat} {A : Abs} {lb : Int} (h : PS w own tg s A lb) {T : Tag → Prop} (ho : Onlys own T w w') (hne : ¬ T tg) (hown : ∀ b, b < w.heap.size → own b = tg → own' b = tg) : PS w' own' tg s A lb := by
  obtain ⟨hb, t, bn, bm, od, sz, h1, h2, h3⟩ := h
  have hl := h1.lts
  obtain ⟨S, hk, g⟩ := ho
  refine ⟨hb, t, bn, bm, od, sz, h1.keepsB hk (fun i hi hin => ?_), h2, fun b hb' => ?_⟩
  · rcases g i hin with e | e
    · exact hne (by rw [← h3 i hi]; exact e)
    · have := hl i hi; omega
  · exact hown b (hl b hb') (h3 b hb')
theorem PS.keeps {w w' : World} {own own' : Own} {tg : Tag} {s : Nat} {A : Abs} {lb : Int} (h : PS w own tg s A lb) (hk : Keeps [] w w') (hown : ∀ b, b < w.heap.size → own b = tg → own' b = tg) : PS w' own' tg s A lb := by
  obtain ⟨hb, t, bn, bm, od, sz, h1, h2, h3⟩ := h
  have hl := h1.lts
  exact ⟨hb, t, bn, bm, od, sz, h1.keepsB hk (by simp), h2, fun b hb' => hown b (hl b hb') (h3 b hb')⟩
theorem PS.wider {w : World} {own : Own} {tg : Tag} {s : Nat} {A : Abs} {lb lb' : Int} (h : PS w own tg s A lb) (hl : lb ≤ lb') : PS w own tg s A lb' := by
  obtain ⟨hb, t, bn, bm, od, sz, h1, h2, h3⟩ := h
  exact ⟨hb, t, bn, bm, od, sz, h1.wider hl, h2, h3⟩
/-- a function hangs on the store's variables alone -/
theorem PS.dep {w : World} {own : Own} {tg : Tag} {s : Nat} {A : Abs} {lb : Int} (h : PS w own tg s A lb) {f : Int} {F : Fun} (hf : Vof A.fs f = some F) : ∀ a b, (∀ i, 0 ≤ i → i < (A.n : Int) → a i = b i) → F a = F b := by
  obtain ⟨hb, t, bn, bm, od, sz, ⟨N, last, H, hst, k1, k2, _⟩, h2, h3⟩ := h
  obtain ⟨f0, e0, e1⟩ := St.has k2 hf
  intro a b hab
  rw [← e1]
  exact E_lev hst.tab.wf (hst.ok f f0 e0) (fun k k0 k1 => by have := od.r1 k k0 k1; exact hab _ this.1 this.2.1)
theorem PS.cnts {w : World} {own : Own} {tg : Tag} {s : Nat} {A : Abs} {lb : Int} (h : PS w own tg s A lb) : ∃ sz, Cnts A.n A.o (Vof A.fs) sz := by
  obtain ⟨hb, t, bn, bm, od, sz, h1, h2, h3⟩ := h
  exact ⟨sz, h1.cnts.congr h2⟩

/-- a function is made, or refused -/
def mk (A : Abs) (k a b c : Int) : Int ⊕ Fun :=
  if k = 2 then .inr (fun _ => a.tmod 2 != 0)
  else if k = 3 then (if 0 ≤ a ∧ a < (A.n : Int) then .inr (fun x => x a) else .inl 3)
  else if k = 4 then (match Vof A.fs a with
    | some F => .inr (fun x => !F x)
    | none => .inl 2)
  else if k = 5 then (match Vof A.fs b, Vof A.fs c with
    | some F, some G => if 0 ≤ a ∧ a ≤ 3 then .inr (fun x => app a (F x) (G x)) else .inl 1
    | _, _ => .inl 2)
  else (match Vof A.fs a, Vof A.fs b, Vof A.fs c with
    | some F, some G, some K => .inr (fun x => if F x then G x else K x)
    | _, _, _ => .inl 2)
noncomputable def madeOf (A : Abs) : Int ⊕ Fun → Int × Int × Abs
  | .inl e => (0, e, A)
  | .inr F => outcome A F
theorem AbsOk.made {A : Abs} (h : AbsOk A) : ∀ m, AbsOk (madeOf A m).2.2
  | .inl _ => h
  | .inr F => h.outcome F
/-- what the program's store makes of it -/
def MadeP (w : World) (own : Own) (tg : Tag) (s : Nat) (A : Abs) (lb : Int) (m : Int ⊕ Fun) (e : Ending) (w' : World) : Prop :=
  e = .returned (.tuple #[.int .i64 (madeOf A m).1, .int .i64 (madeOf A m).2.1]) ∧ (∀ F, m = .inr F → A.fs.length < 60 → ∃ sz, Cnts A.n A.o (Vof (A.add F).fs) sz) ∧ PS w' (newOwn own w tg) tg s (madeOf A m).2.2 (lb + 100000) ∧ Only own tg w w'
theorem MadeP.no {w w' : World} {own : Own} {tg : Tag} {s : Nat} {A : Abs} {lb x : Int} {e : Ending} (h : PS w own tg s A lb) (he : e = .returned (.tuple #[.int .i64 0, .int .i64 x])) (hk : Keeps [] w w') : MadeP w own tg s A lb (.inl x) e w' :=
  ⟨he, fun F hF => (by cases hF), (h.keeps hk (fun b hb e => newOwn_stays hb e)).wider (by omega), Only.nil hk⟩

theorem MadeP.yes {w w' : World} {own : Own} {tg : Tag} {s hb t bn bm sz : Nat} {A : Abs} {lb : Int} {od : Ord A.n} {F : Fun} {e : Ending} (hA : AbsOk A) (_h : St w s hb t bn bm od A.fs.length sz A.lim A.la (Vof A.fs) lb) (ho : ∀ k, 0 ≤ k → k < (A.n : Int) → od.at_ k = A.o k) (hown : ∀ b ∈ [s, hb, t, bn, bm, od.blk], own b = tg)
    (hh : Held1 w s hb t bn bm od A.fs.length A.lim A.la (Vof A.fs) lb F e w') : MadeP w own tg s A lb (.inr F) e w' := by
  have hn : ∀ b ∈ [s, hb, t, bn, bm, od.blk], newOwn own w tg b = tg := fun b hb => newOwn_same (hown b hb)
  have hV : Vof (A.add F).fs = addV (Vof A.fs) (A.la + 1) F := Vof_add hA.new F
  have hm : madeOf A (.inr F) = outcome A F := rfl
  unfold MadeP
  rw [hm]
  rcases hh with ⟨h1, h2, ⟨sz', h3⟩, h4⟩ | ⟨h1, sz2, h2, h3, h4⟩
  · have e1 : outcome A F = (0, 4, A) := by unfold outcome; rw [if_pos h1]
    rw [e1]
    exact ⟨h2, fun G _ hl => by omega, ⟨hb, t, bn, bm, od, sz', h3.wider (by omega), ho, hn⟩, Only.nil h4⟩
  · have hS : ∀ b ∈ [s, hb, t, bn, bm], own b = tg := fun b hb' => hown b (by simp at hb' ⊢; omega)
    rcases h4 with ⟨q1, q2, q3⟩ | ⟨q1, q2, ⟨sz3, q3⟩, w2, N2, last2, H2, q4, q5, q6⟩
    · have hc : Cnts A.n A.o (Vof (A.add F).fs) sz2 := by rw [hV]; exact q3.cnts.congr ho
      have e1 : outcome A F = (A.la + 1, 0, A.add F) := by
        unfold outcome
        rw [if_neg (by omega), cntOf_eq hc, if_neg (by omega)]
      rw [e1]
      refine ⟨q2, fun G hG _ => ⟨sz2, by cases hG; exact hc⟩, ⟨hb, t, bn, bm, od, sz2, ?_, ho, hn⟩, Only.of h3 hS⟩
      rw [hV]
      have : (A.add F).fs.length = A.fs.length + 1 := by simp [Abs.add]
      rw [this]
      exact q3
    · have hc : Cnts A.n A.o (Vof (A.add F).fs) sz2 := by rw [hV]; exact ⟨w2, s, hb, t, bn, bm, _, od, _, _, N2, last2, H2, q4, q5, q6, ho⟩
      have e1 : outcome A F = (0, 5, A) := by
        unfold outcome
        rw [if_neg (by omega), cntOf_eq hc, if_pos q1]
      rw [e1]
      exact ⟨q2, fun G hG _ => ⟨sz2, by cases hG; exact hc⟩, ⟨hb, t, bn, bm, od, sz3, q3, ho, hn⟩, Only.of h3 hS⟩

section
variable {w : World} {own : Own} {tg : Tag} {s : Nat} {A : Abs} {lb : Int}

theorem ps_constant (hA : AbsOk A) (h : PS w own tg s A lb) (hg : A.la + 1 ≤ 4611686018427387904) (a b c : Int) :
    Calls Tryz.prog 22 #[.pointer (some ⟨s, 0, none⟩), .bool (a.tmod 2 != 0)] w (MadeP w own tg s A lb (mk A 2 a b c)) := by
  obtain ⟨hb, t, bn, bm, od, sz, h1, h2, h3⟩ := h
  exact (constant_any h1 _ hg).mono (fun e w' hh => MadeP.yes hA h1 h2 h3 hh)
theorem ps_variable (hA : AbsOk A) (h : PS w own tg s A lb) (hg : A.la + 1 ≤ 4611686018427387904) (hlb : lb + 100000 ≤ 4611686018427387904) (a b c : Int) :
    Calls Tryz.prog 23 #[.pointer (some ⟨s, 0, none⟩), .int .i64 a] w (MadeP w own tg s A lb (mk A 3 a b c)) := by
  have h0 := h
  obtain ⟨hb, t, bn, bm, od, sz, h1, h2, h3⟩ := h
  by_cases hv : 0 ≤ a ∧ a < (A.n : Int)
  · have e : mk A 3 a b c = .inr (fun x => x a) := by simp [mk, hv]
    rw [e]
    exact (variable_any h1 hv.1 hv.2 hlb hg).mono (fun e w' hh => MadeP.yes hA h1 h2 h3 hh)
  · have e : mk A 3 a b c = .inl 3 := by simp [mk, hv]
    rw [e]
    exact (variable_bad h1 (by omega)).mono (fun e w' hh => MadeP.no h0 hh.1 hh.2)
theorem ps_not (hA : AbsOk A) (h : PS w own tg s A lb) (hg : A.la + 1 ≤ 4611686018427387904) (hlb : lb + 100000 ≤ 4611686018427387904) {a : Int} (ha : Fits a) (b c : Int) :
    Calls Tryz.prog 24 #[.pointer (some ⟨s, 0, none⟩), .int .i64 a] w (MadeP w own tg s A lb (mk A 4 a b c)) := by
  have h0 := h
  obtain ⟨hb, t, bn, bm, od, sz, h1, h2, h3⟩ := h
  cases hf : Vof A.fs a with
  | some F =>
    have e : mk A 4 a b c = .inr (fun x => !F x) := by simp [mk, hf]
    rw [e]
    exact (not_any h1 hf hlb hg).mono (fun e w' hh => MadeP.yes hA h1 h2 h3 hh)
  | none =>
    have e : mk A 4 a b c = .inl 2 := by simp [mk, hf]
    rw [e]
    exact (not_bad h1 ha hf).mono (fun e w' hh => MadeP.no h0 hh.1 hh.2)
theorem ps_apply (hA : AbsOk A) (h : PS w own tg s A lb) (hg : A.la + 1 ≤ 4611686018427387904) (hlb : lb + 100000 ≤ 4611686018427387904) (a : Int) {b c : Int} (hb' : Fits b) (hc' : Fits c) :
    Calls Tryz.prog 25 #[.pointer (some ⟨s, 0, none⟩), .int .i64 a, .int .i64 b, .int .i64 c] w (MadeP w own tg s A lb (mk A 5 a b c)) := by
  have h0 := h
  obtain ⟨hb, t, bn, bm, od, sz, h1, h2, h3⟩ := h
  cases hf : Vof A.fs b with
  | none =>
    have e : mk A 5 a b c = .inl 2 := by simp [mk, hf]
    rw [e]
    exact (apply_bad h1 hb' hc' (Or.inl hf)).mono (fun e w' hh => MadeP.no h0 hh.1 hh.2)
  | some F =>
    cases hf2 : Vof A.fs c with
    | none =>
      have e : mk A 5 a b c = .inl 2 := by simp [mk, hf, hf2]
      rw [e]
      exact (apply_bad h1 hb' hc' (Or.inr hf2)).mono (fun e w' hh => MadeP.no h0 hh.1 hh.2)
    | some G =>
      by_cases hv : 0 ≤ a ∧ a ≤ 3
      · have e : mk A 5 a b c = .inr (fun x => app a (F x) (G x)) := by simp [mk, hf, hf2, hv]
        rw [e]
        exact (apply_any h1 hf hf2 hv.1 hv.2 hlb hg).mono (fun e w' hh => MadeP.yes hA h1 h2 h3 hh)
      · have e : mk A 5 a b c = .inl 1 := by simp [mk, hf, hf2, hv]
        rw [e]
        exact (apply_range h1 hf hf2 (by omega)).mono (fun e w' hh => MadeP.no h0 hh.1 hh.2)
theorem ps_choose (hA : AbsOk A) (h : PS w own tg s A lb) (hg : A.la + 1 ≤ 4611686018427387904) (hlb : lb + 100000 ≤ 4611686018427387904) {a b c : Int} (ha' : Fits a) (hb' : Fits b) (hc' : Fits c) :
    Calls Tryz.prog 26 #[.pointer (some ⟨s, 0, none⟩), .int .i64 a, .int .i64 b, .int .i64 c] w (MadeP w own tg s A lb (mk A 6 a b c)) := by
  have h0 := h
  obtain ⟨hb, t, bn, bm, od, sz, h1, h2, h3⟩ := h
  have no : (Vof A.fs a = none ∨ Vof A.fs b = none ∨ Vof A.fs c = none) → Calls Tryz.prog 26 #[.pointer (some ⟨s, 0, none⟩), .int .i64 a, .int .i64 b, .int .i64 c] w (MadeP w own tg s A lb (mk A 6 a b c)) := by
    intro hno
    have e : mk A 6 a b c = .inl 2 := by
      unfold mk
      rw [if_neg (by omega), if_neg (by omega), if_neg (by omega), if_neg (by omega)]
      split
      · rename_i q1 q2 q3
        rcases hno with e | e | e
        · rw [e] at q1; cases q1
        · rw [e] at q2; cases q2
        · rw [e] at q3; cases q3
      · rfl
    rw [e]
    exact (choosec_bad h1 ha' hb' hc' hno).mono (fun e w' hh => MadeP.no h0 hh.1 hh.2)
  cases hf : Vof A.fs a with
  | none => exact no (Or.inl hf)
  | some F =>
    cases hf2 : Vof A.fs b with
    | none => exact no (Or.inr (Or.inl hf2))
    | some G =>
      cases hf3 : Vof A.fs c with
      | none => exact no (Or.inr (Or.inr hf3))
      | some K =>
        have e : mk A 6 a b c = .inr (fun x => if F x then G x else K x) := by simp [mk, hf, hf2, hf3]
        rw [e]
        exact (choosec_any h1 hf hf2 hf3 hlb hg).mono (fun e w' hh => MadeP.yes hA h1 h2 h3 hh)

/-- what is left behind a Release -/
def Abs.del (A : Abs) (f : Int) : Abs := { A with fs := A.fs.filter fun p => p.1 != f }
theorem AbsOk.del {A : Abs} (h : AbsOk A) (f : Int) : AbsOk (A.del f) := by
  refine ⟨h.n1, h.n8, h.la0, fun p hp => h.hs p (List.mem_filter.1 hp).1, ?_, Nat.le_trans (List.length_filter_le _ _) h.len⟩
  exact List.Nodup.sublist (List.Sublist.map _ List.filter_sublist) h.nd
/-- the error of a Release, and the store behind -/
def relOf (A : Abs) (f : Int) : Int × Abs := if (Vof A.fs f).isSome then (0, A.del f) else (2, A)
theorem ps_release (hA : AbsOk A) (h : PS w own tg s A lb) {f : Int} (hf : Fits f) :
    Calls Tryz.prog 16 #[.pointer (some ⟨s, 0, none⟩), .int .i64 f] w fun e w' => e = .returned (.int .i64 (relOf A f).1) ∧ PS w' (newOwn own w tg) tg s (relOf A f).2 lb ∧ Only own tg w w' := by
  have h0 := h
  obtain ⟨hb, t, bn, bm, od, sz, h1, h2, h3⟩ := h
  cases hv : Vof A.fs f with
  | none =>
    have e : relOf A f = (2, A) := by simp [relOf, hv]
    rw [e]
    refine (release_bad h1 hf hv).mono ?_
    rintro e w' ⟨rfl, hk⟩
    exact ⟨rfl, h0.keeps hk (fun b hb e => newOwn_stays hb e), Only.nil hk⟩
  | some F =>
    have e : relOf A f = (0, A.del f) := by simp [relOf, hv]
    rw [e]
    refine (release_any h1 hv).mono ?_
    rintro e w' ⟨rfl, ⟨sz', h4⟩, hk⟩
    have e2 : Vof (A.del f).fs = delV (Vof A.fs) f := Vof_del _ _
    have e3 : (A.del f).fs.length = A.fs.length - 1 := filter_len hA.nd (Vof_some hv)
    refine ⟨rfl, ⟨hb, t, bn, bm, od, sz', ?_, h2, fun b hb' => newOwn_same (h3 b hb')⟩, Only.of hk (fun b hb' => h3 b (by simp at hb' ⊢; omega))⟩
    rw [e2, e3]
    exact h4
end

end Go.Proofs.YtmgjegokkbghlaaGreat
