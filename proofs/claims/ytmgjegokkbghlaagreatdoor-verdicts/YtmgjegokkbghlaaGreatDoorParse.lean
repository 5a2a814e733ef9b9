/- The walks of the parser of expressions. -/
import Derived.Test.YtmgjegokkbghlaaGreatDoorSplit
namespace Go.Proofs.YtmgjegokkbghlaaGreatDoor
open Go.RowKit Go.Maps Gram Circ
set_option linter.unusedVariables false

/-- a list of words, somewhere in what lay at the start -/
def WSl (w0 : World) (P : Nat) (v : Value) (ws : List W) : Prop :=
  ∃ a cap, v = .slice a ws.length cap ∧ ws.length ≤ cap ∧ cap ≤ maxLen ∧ ∀ j (hj : j < ws.length), ∃ b o, a = some ⟨b, o, none⟩ ∧ b ≠ P ∧ b < w0.heap.size ∧ w0.cell? ⟨b, o + j, none⟩ = some (.string ws[j])
theorem WSl.nil {w0 : World} {P : Nat} {v : Value} (h : WSl w0 P v []) : ∃ a cap, v = .slice a 0 cap := by
  obtain ⟨a, cap, h1, _⟩ := h
  exact ⟨a, cap, h1⟩
theorem WSl.cons {w0 : World} {P : Nat} {v : Value} {x : W} {r : List W} (h : WSl w0 P v (x :: r)) : ∃ b o cap, v = .slice (some ⟨b, o, none⟩) (r.length + 1) cap ∧ r.length + 1 ≤ cap ∧ cap ≤ maxLen ∧ b ≠ P ∧ b < w0.heap.size ∧ w0.cell? ⟨b, o, none⟩ = some (.string x) ∧ WSl w0 P (.slice (if cap = 1 then some ⟨b, o, none⟩ else some ⟨b, o + 1, none⟩) r.length (cap - 1)) r := by
  obtain ⟨a, cap, h1, h2, h3, h4⟩ := h
  obtain ⟨b, o, rfl, h5, h6, h7⟩ := h4 0 (by simp)
  simp only [List.length_cons] at h1 h2
  refine ⟨b, o, cap, h1, h2, h3, h5, h6, h7, _, _, rfl, by omega, by omega, fun j hj => ?_⟩
  have hc : ¬ cap = 1 := by omega
  rw [if_neg hc]
  obtain ⟨b', o', e, _, _, h8⟩ := h4 (j + 1) (by simp; omega)
  cases e
  exact ⟨b, o + 1, rfl, h5, h6, by rw [show o + 1 + j = o + (j + 1) by omega]; simpa using h8⟩

theorem own_slice {w : World} {base : Nat} {e : TypeId} {n k : Nat} {v : Value} {xs : List Value} (h : w.ownsRow base e n v (k + 1) xs) : ∃ g cap, v = .slice (some ⟨g, 0, none⟩) (k + 1) cap := by
  rcases h.2 with ⟨_, h0⟩ | ⟨g, cap, cur, hv, _⟩
  · omega
  · exact ⟨g, cap, hv⟩
/-- THE PARSER at block P: the words that are still to come, what it has made -/
structure Prs (w0 : World) (P : Nat) (w : World) (ws made : List W) : Prop where
  keeps : Keeps [P] w0 w
  lt : P < w0.heap.size
  words : ∃ v, w.cell? ⟨P, 0, none⟩ = some v ∧ WSl w0 P v ws
  mades : ∃ v, w.cell? ⟨P, 1, none⟩ = some v ∧ Wds w w0.heap.size v made
  f0 : w.frozen? ⟨P, 0, none⟩ = false
  f1 : w.frozen? ⟨P, 1, none⟩ = false

/-- the words from x on -/
def takeW (x : W) : List W → Option (List W)
  | [] => none
  | y :: r => if y = x then some r else none

theorem Wds.keeps {w w' : World} {base : Nat} {v : Value} {l : List W} {S : List Nat} (h : Wds w base v l) (hk : Keeps S w w') (hS : ∀ i ∈ S, i < base) : Wds w' base v l := by
  refine ⟨h.1, ?_⟩
  rcases h.2 with h0 | ⟨g, cap, cur, h1, h2, h3, h4⟩
  · exact Or.inl h0
  · exact Or.inr ⟨g, cap, cur, h1, h2, (hk.block g (Array.getElem?_eq_some_iff.1 h3).1 (fun hm => by have := hS g hm; omega)).trans h3, h4⟩
theorem cell_set {w : World} {p : Addr} {u v : Value} (h : w.cell? p = some u) : (w.setCell p v).cell? p = some v := World.cell?_setCell_same' _ _ _ (by rw [h]; rfl)
theorem cell_off {w : World} {p q : Addr} {v : Value} (h : q ≠ p) : (w.setCell p v).cell? q = w.cell? q := World.cell?_setCell_other _ _ _ _ (Ne.symm h)
theorem Prs.setWords {w0 w : World} {P : Nat} {ws made r : List W} {v : Value} (h : Prs w0 P w ws made) (hv : WSl w0 P v r) : Prs w0 P (w.setCell ⟨P, 0, none⟩ v) r made := by
  obtain ⟨u, hu, _⟩ := h.words
  obtain ⟨m, hm, hmo⟩ := h.mades
  refine ⟨h.keeps.setCell _ (Or.inl (by simp)) _, h.lt, ⟨v, cell_set hu, hv⟩, ⟨m, (cell_off (by simp)).trans hm, hmo.keeps ((Keeps.refl [P] w).setCell _ (Or.inl (by simp)) _) (by simpa using h.lt)⟩, ?_, ?_⟩
  · rw [World.frozen?_setCell]; exact h.f0
  · rw [World.frozen?_setCell]; exact h.f1

/-- what take answers -/
def TakeIs (w0 : World) (P : Nat) (w : World) (x : W) (ws made : List W) (e : Ending) (w' : World) : Prop := match takeW x ws with
  | none => e = .returned (.bool false) ∧ w = w'
  | some r => e = .returned (.bool true) ∧ Prs w0 P w' r made

set_option maxRecDepth 100000 in
set_option maxHeartbeats 1000000 in
theorem take_any {w0 w : World} {P : Nat} {ws made : List W} (h : Prs w0 P w ws made) (x : W) :
    Calls Tryz.prog 208 #[.pointer (some ⟨P, 0, none⟩), .string x] w fun e w' => TakeIs w0 P w x ws made e w' := by
  obtain ⟨v, hc, hv⟩ := h.words
  have hkp := h.keeps
  have hlt := h.lt
  have f0 := h.f0
  cases ws with
  | nil =>
    obtain ⟨a, cap, rfl⟩ := hv.nil
    simp only [TakeIs, takeW]
    go_enter Tryz.func208, Tryz.ntmps208
    go_wp2_with fail
    go_ret
    exact ⟨rfl, rfl⟩
  | cons y r =>
    obtain ⟨b, o, cap, rfl, hc1, hc2, hb, hbl, hcell, hrest⟩ := hv.cons
    have hcw := hkp.cell hcell (by simpa using hb)
    have hrl : (0 : Int) < ((r.length + 1 : Nat) : Int) := by omega
    have hrl0 : (((r.length + 1 : Nat) : Int) == 0) = false := beq_false_of_ne (by omega)
    by_cases e : y = x
    · simp only [TakeIs, takeW, e, if_true]
      subst e
      have q : (y.toList == y.toList) = true := beq_self_eq_true _
      by_cases e1 : cap = 1
      · rw [if_pos e1] at hrest
        subst e1
        obtain rfl : r = [] := List.length_eq_zero_iff.1 (by omega)
        go_enter Tryz.func208, Tryz.ntmps208
        go_wp2_with fail
        go_ret
        exact ⟨rfl, h.setWords hrest⟩
      · rw [if_neg e1] at hrest
        go_enter Tryz.func208, Tryz.ntmps208
        go_wp2_with fail
        go_ret
        exact ⟨rfl, h.setWords hrest⟩
    · simp only [TakeIs, takeW, e, if_false]
      have q : (y.toList == x.toList) = false := by rw [beq_bl]; simpa using e
      clear e
      go_enter Tryz.func208, Tryz.ntmps208
      go_wp2_with fail
      go_ret
      exact ⟨rfl, rfl⟩
theorem take_no {w0 w : World} {P : Nat} {ws made : List W} (h : Prs w0 P w ws made) {x : W} (hx : takeW x ws = none) :
    Calls Tryz.prog 208 #[.pointer (some ⟨P, 0, none⟩), .string x] w fun e w' => e = .returned (.bool false) ∧ w = w' :=
  (take_any h x).mono fun e w' hh => by unfold TakeIs at hh; rw [hx] at hh; exact hh
theorem take_yes {w0 w : World} {P : Nat} {ws made r : List W} (h : Prs w0 P w ws made) {x : W} (hx : takeW x ws = some r) :
    Calls Tryz.prog 208 #[.pointer (some ⟨P, 0, none⟩), .string x] w fun e w' => e = .returned (.bool true) ∧ Prs w0 P w' r made :=
  (take_any h x).mono fun e w' hh => by unfold TakeIs at hh; rw [hx] at hh; exact hh

/-- one word more is made -/
theorem Prs.append {w0 w w1 : World} {P : Nat} {ws made : List W} {x : W} {v v' : Value} {o : Obj} {row : Option Nat} (h : Prs w0 P w ws made) (hm : w.cell? ⟨P, 1, none⟩ = some v) (hown : w1.ownsRow w0.heap.size 9 1 v' (made.length + 1) (made.map Value.string ++ [.string x])) (hg : (w.alloc o).grownBy w1 row) (hr : ∀ k, row = some k → w0.heap.size ≤ k) :
    Prs w0 P (w1.setCell ⟨P, 1, none⟩ v') ws (made ++ [x]) ∧ (∀ b o u, b < w0.heap.size → w.cell? ⟨b, o, none⟩ = some u → w1.cell? ⟨b, o, none⟩ = some u) ∧ w1.frozen? ⟨P, 0, none⟩ = false ∧ w1.frozen? ⟨P, 1, none⟩ = false := by
  obtain ⟨u, hu, hv⟩ := h.words
  have hlt := h.lt
  have hk1 : Keeps [P] w0 w1 := (h.keeps.alloc _).grown hg (fun k e => Or.inr (hr k e))
  have hb : Below w0.heap.size w w1 := ((Below.refl _ w).alloc h.keeps.size _).grown hg (by simp; have := h.keeps.size; omega) hr
  have e1 : w1.cell? ⟨P, 1, none⟩ = some v := (hb.cell (p := ⟨P, 1, none⟩) hlt).trans hm
  have e0 : w1.cell? ⟨P, 0, none⟩ = some u := (hb.cell (p := ⟨P, 0, none⟩) hlt).trans hu
  have g1 : w1.frozen? ⟨P, 1, none⟩ = false := (hb.frozen (p := ⟨P, 1, none⟩) hlt).trans h.f1
  have g0 : w1.frozen? ⟨P, 0, none⟩ = false := (hb.frozen (p := ⟨P, 0, none⟩) hlt).trans h.f0
  have hown2 : Wds w1 w0.heap.size v' (made ++ [x]) := by unfold Wds; rw [List.length_append, List.map_append]; exact hown
  refine ⟨⟨hk1.setCell _ (Or.inl (by simp)) _, hlt, ⟨u, (cell_off (by simp)).trans e0, hv⟩, ⟨v', cell_set e1, hown2.keeps ((Keeps.refl [P] w1).setCell _ (Or.inl (by simp)) _) (by simpa using hlt)⟩, ?_, ?_⟩, fun b o u hlt' hu' => (hb.cell (p := ⟨b, o, none⟩) hlt').trans hu', g0, g1⟩
  · rw [World.frozen?_setCell]; exact g0
  · rw [World.frozen?_setCell]; exact g1

def valueW (ws : List W) : Option (Ex × List W) := match ws with
  | [] => none
  | x :: r => if isName x then some (.nm x, r) else if x = zer then some (.lit false, r) else if x = one then some (.lit true, r) else none

/-- what a part of the parser answers: whether it has read something; if so, what -/
def ReadIs (w0 : World) (P : Nat) (ws made : List W) (res : Option (Ex × List W)) (e : Ending) (w' : World) : Prop :=
  e = .returned (.bool res.isSome) ∧ ∃ ws' made', Prs w0 P w' ws' made' ∧ made'.length + ws'.length ≤ made.length + ws.length ∧ ws'.length ≤ ws.length ∧ (∀ y ∈ ws', y ∈ ws) ∧ ∀ ex r, res = some (ex, r) → ws' = r ∧ made' = made ++ ex.post

set_option maxRecDepth 100000 in
set_option maxHeartbeats 1000000 in
theorem value_any {w0 w : World} {P : Nat} {ws made : List W} (h : Prs w0 P w ws made) (hfew : made.length + ws.length ≤ 5000) (hpos : ∀ x ∈ ws, 0 < ByteArray.size x) :
    Calls Tryz.prog 213 #[.pointer (some ⟨P, 0, none⟩)] w fun e w' => ReadIs w0 P ws made (valueW ws) e w' := by
  obtain ⟨i0, hi0, hz0, hz1, hz2⟩ := info_parts infoStr
  have hml : 2000000 < maxLen := by decide
  obtain ⟨v, hc, hv⟩ := h.words
  obtain ⟨m, hmc, hmo⟩ := h.mades
  have hkp := h.keeps
  have hlt := h.lt
  have hsz := hkp.size
  have f0 := h.f0
  have f1 := h.f1
  cases ws with
  | nil =>
    obtain ⟨a, cap, rfl⟩ := hv.nil
    have HR : Hid (ReadIs w0 P [] made none (.returned (.bool false)) w) := ⟨rfl, [], made, h, by simp, by simp, by simp, fun _ _ h => by cases h⟩
    simp only [valueW]
    go_enter Tryz.func213, Tryz.ntmps213
    go_wp2_with fail
    go_ret
    exact HR.out
  | cons x r =>
    obtain ⟨b, o, cap, rfl, hc1, hc2, hb, hbl, hcell, hrest⟩ := hv.cons
    have hcw := hkp.cell hcell (by simpa using hb)
    have hx0 : 0 < ByteArray.size x := hpos x (by simp)
    have hrl : (0 : Int) < ((r.length + 1 : Nat) : Int) := by omega
    have hrl0 : (((r.length + 1 : Nat) : Int) == 0) = false := beq_false_of_ne (by omega)
    have HM : Hid (Wds w w0.heap.size m made) := hmo
    have hVal : valueW (x :: r) = if isName x then some (.nm x, r) else if x = zer then some (.lit false, r) else if x = one then some (.lit true, r) else none := rfl
    have HV : Hid (valueW (x :: r) = if isName x then some (.nm x, r) else if x = zer then some (.lit false, r) else if x = one then some (.lit true, r) else none) := hVal
    clear hVal
    have hfin : ∀ (ex : Ex) (w' : World), ex.post = [x] → valueW (x :: r) = some (ex, r) → Prs w0 P w' r (made ++ [x]) → ReadIs w0 P (x :: r) made (valueW (x :: r)) (.returned (.bool true)) w' := fun ex w' hp hv hP => by
      unfold ReadIs
      rw [hv]
      refine ⟨rfl, r, made ++ [x], hP, by simp; omega, by simp, fun y hy => by simp [hy], fun ex' r' e => ?_⟩
      cases e
      exact ⟨rfl, by rw [hp]⟩
    have HF : Hid (∀ (ex : Ex) (w' : World), ex.post = [x] → valueW (x :: r) = some (ex, r) → Prs w0 P w' r (made ++ [x]) → ReadIs w0 P (x :: r) made (valueW (x :: r)) (.returned (.bool true)) w') := hfin
    clear hfin
    have hfew2 : made.length + (r.length + 1) ≤ 5000 := by simpa using hfew
    have go : ∀ (b1 b2 b3 : Bool) (ex : Ex), isName x = b1 → (b1 = false → (x.toList == [48]) = b2) → (b1 = false → b2 = false → (x.toList == [49]) = b3) → (b1 || b2 || b3) = true → ex.post = [x] → valueW (x :: r) = some (ex, r) → Calls Tryz.prog 213 #[.pointer (some ⟨P, 0, none⟩)] w fun e w' => ReadIs w0 P (x :: r) made (valueW (x :: r)) e w' := by
      intro b1 b2 b3 ex h1 h2 h3 hb hp hval
      have H1 : Hid (isName x = b1) := h1
      have HP : Hid (ex.post = [x]) := hp
      have HVV : Hid (valueW (x :: r) = some (ex, r)) := hval
      clear h1 hp hval
      by_cases e1 : cap = 1
      all_goals
        first | rw [if_pos e1] at hrest | rw [if_neg e1] at hrest
        first | (subst e1; obtain rfl : r = [] := List.length_eq_zero_iff.1 (by omega)) | skip
        cases b1 with
        | true =>
          clear h2 h3 hb
          go_enter Tryz.func213, Tryz.ntmps213
          go_wp2_with (first
            | (go_at_call 130; refine (isName_any x hx0).mono ?_; rintro e w' ⟨rfl, rfl⟩; rw [H1.out])
            | (at_builtin; refine wpList_append_own_at _ rfl _ _ 50 rfl w0.heap.size 9 i0 (.string ByteArray.empty) 1 16 Tryz.underlying50 hi0 hz0 hz1 hz2 rfl (by decide) _ made.length (made.map Value.string) rfl (hmo.alloc _) ⟨w.heap.size, 0, none⟩ 1 1 [.string x] rfl rfl (cell_one_new _ _ _) (by simp [Value.oneCell']) (by omega) (by omega) (by simp; omega) ?_; intro v' w1 hown' hgrow hnil hloc; obtain ⟨g', cap', rfl⟩ := own_slice hown'; obtain ⟨hP1, hcs, g0', g1'⟩ := h.append hmc hown' hgrow (fun k hk' => (hmo.lt k hk').1); have c0' := hcs _ _ _ hlt hc; have c1' := hcs _ _ _ hlt hmc; clear hcs)
            | fail)
          go_ret
          exact HF.out ex _ HP.out HVV.out (hP1.setWords hrest)
        | false =>
          have q2 := h2 rfl
          cases b2 with
          | true =>
            clear h2 h3 hb
            go_enter Tryz.func213, Tryz.ntmps213
            go_wp2_with (first
              | (go_at_call 130; refine (isName_any x hx0).mono ?_; rintro e w' ⟨rfl, rfl⟩; rw [H1.out])
              | (at_builtin; refine wpList_append_own_at _ rfl _ _ 50 rfl w0.heap.size 9 i0 (.string ByteArray.empty) 1 16 Tryz.underlying50 hi0 hz0 hz1 hz2 rfl (by decide) _ made.length (made.map Value.string) rfl (hmo.alloc _) ⟨w.heap.size, 0, none⟩ 1 1 [.string x] rfl rfl (cell_one_new _ _ _) (by simp [Value.oneCell']) (by omega) (by omega) (by simp; omega) ?_; intro v' w1 hown' hgrow hnil hloc; obtain ⟨g', cap', rfl⟩ := own_slice hown'; obtain ⟨hP1, hcs, g0', g1'⟩ := h.append hmc hown' hgrow (fun k hk' => (hmo.lt k hk').1); have c0' := hcs _ _ _ hlt hc; have c1' := hcs _ _ _ hlt hmc; clear hcs)
              | fail)
            go_ret
            exact HF.out ex _ HP.out HVV.out (hP1.setWords hrest)
          | false =>
            have q3 := h3 rfl rfl
            obtain rfl : b3 = true := by simpa using hb
            clear h2 h3 hb
            go_enter Tryz.func213, Tryz.ntmps213
            go_wp2_with (first
              | (go_at_call 130; refine (isName_any x hx0).mono ?_; rintro e w' ⟨rfl, rfl⟩; rw [H1.out])
              | (at_builtin; refine wpList_append_own_at _ rfl _ _ 50 rfl w0.heap.size 9 i0 (.string ByteArray.empty) 1 16 Tryz.underlying50 hi0 hz0 hz1 hz2 rfl (by decide) _ made.length (made.map Value.string) rfl (hmo.alloc _) ⟨w.heap.size, 0, none⟩ 1 1 [.string x] rfl rfl (cell_one_new _ _ _) (by simp [Value.oneCell']) (by omega) (by omega) (by simp; omega) ?_; intro v' w1 hown' hgrow hnil hloc; obtain ⟨g', cap', rfl⟩ := own_slice hown'; obtain ⟨hP1, hcs, g0', g1'⟩ := h.append hmc hown' hgrow (fun k hk' => (hmo.lt k hk').1); have c0' := hcs _ _ _ hlt hc; have c1' := hcs _ _ _ hlt hmc; clear hcs)
              | fail)
            go_ret
            exact HF.out ex _ HP.out HVV.out (hP1.setWords hrest)
    cases h1 : isName x with
    | true => exact go true false false (.nm x) h1 (fun h => by cases h) (fun h => by cases h) rfl rfl (by rw [HV.out, h1]; rfl)
    | false =>
      cases h2 : decide (x = mk [48]) with
      | true => exact go false true false (.lit false) h1 (fun _ => lit_eq x [48] _ h2) (fun _ h => by cases h) rfl (by have := of_decide_eq_true h2; rw [this]; rfl) (by rw [HV.out, h1]; have := of_decide_eq_true h2; rw [this]; rfl)
      | false =>
        cases h3 : decide (x = mk [49]) with
        | true => exact go false false true (.lit true) h1 (fun _ => lit_eq x [48] _ h2) (fun _ _ => lit_eq x [49] _ h3) rfl (by have := of_decide_eq_true h3; rw [this]; rfl) (by rw [HV.out, h1]; have := of_decide_eq_true h3; rw [this]; rfl)
        | false =>
          have H1 : Hid (isName x = false) := h1
          have q2 := lit_eq x [48] _ h2
          have q3 := lit_eq x [49] _ h3
          have hno : valueW (x :: r) = none := by
            rw [HV.out, h1, if_neg (by simp), if_neg (show ¬ x = zer from of_decide_eq_false h2), if_neg (show ¬ x = one from of_decide_eq_false h3)]
          have HN : Hid (ReadIs w0 P (x :: r) made (valueW (x :: r)) (.returned (.bool false)) w) := by
            show ReadIs _ _ _ _ _ _ _
            unfold ReadIs
            rw [hno]
            exact ⟨rfl, x :: r, made, h, by omega, by omega, fun y hy => hy, fun _ _ h => by cases h⟩
          clear go h1 h2 h3 hno
          go_enter Tryz.func213, Tryz.ntmps213
          go_wp2_with (first
            | (go_at_call 130; refine (isName_any x hx0).mono ?_; rintro e w' ⟨rfl, rfl⟩; rw [H1.out])
            | fail)
          go_ret
          exact HN.out

end Go.Proofs.YtmgjegokkbghlaaGreatDoor
