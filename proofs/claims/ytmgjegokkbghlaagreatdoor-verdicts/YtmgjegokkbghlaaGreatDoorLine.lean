/- The walks that read a line: readInput, readLatch, readNext, readBad, readLine. -/
import Derived.Test.YtmgjegokkbghlaaGreatDoorParseAll
import Derived.BigRegion
namespace Go.Proofs.YtmgjegokkbghlaaGreatDoor
open Go.RowKit Go.Maps Gram Circ
set_option linter.unusedVariables false

/-- words in memory -/
def WS (w : World) (v : Value) (ws : List W) : Prop := WSl w w.heap.size v ws
theorem WS.keeps {w w' : World} {v : Value} {ws : List W} (h : WS w v ws) (hk : Keeps [] w w') : WS w' v ws := by
  obtain ⟨a, cap, h1, h2, h3, h4⟩ := h
  have hs := hk.size
  refine ⟨a, cap, h1, h2, h3, fun j hj => ?_⟩
  obtain ⟨b, o, k1, k2, k3, k4⟩ := h4 j hj
  exact ⟨b, o, k1, by omega, by omega, hk.cell k4 (by simp)⟩
theorem Wds.ws {w : World} {base : Nat} {v : Value} {ws : List W} (h : Wds w base v ws) : WS w v ws := by
  have hh := h
  rcases h.2 with ⟨h0, h1⟩ | ⟨g, cap, cur, hv, hb, hgg, hle, hmx, rest⟩
  · refine ⟨none, 0, ?_, by omega, by omega, fun j hj => by omega⟩
    rw [h0, h1]
  · refine ⟨some ⟨g, 0, none⟩, cap, hv, by omega, hmx, fun j hj => ⟨g, 0, rfl, ?_, (Array.getElem?_eq_some_iff.1 hgg).1, ?_⟩⟩
    · have := (Array.getElem?_eq_some_iff.1 hgg).1; omega
    · subst hv
      have := World.ownsRow.cellAt hh j (by omega)
      rw [Nat.zero_add, this]
      simp [hj]

/-- a line as the program has it -/
def lineV (x : Ln) (m : Value) : Value := .agg #[.int .i64 (x.kind : Int), .string x.name, .string x.first, m]
def lnPost (x : Ln) : List W := if x.kind = 3 ∨ x.kind = 4 then x.ex.post else []
/-- what reading a line answers, of what it may be -/
def LineIs (base : Nat) (res : Option Ln) (e : Ending) (w' : World) : Prop := match res with
  | none => ∃ k n f a m c, e = .returned (.tuple #[.agg #[.int .i64 k, .string n, .string f, .slice a m c], .bool false])
  | some x => ∃ a m c, e = .returned (.tuple #[lineV x (.slice a m c), .bool true]) ∧ Wds w' base (.slice a m c) (lnPost x)
theorem lineIs_no {base : Nat} {res : Option Ln} {w' : World} {k : Int} {n f : ByteArray} {a : Option Addr} {m c : Nat} (h : res = none) : LineIs base res (.returned (.tuple #[.agg #[.int .i64 k, .string n, .string f, .slice a m c], .bool false])) w' := by
  subst h; exact ⟨_, _, _, _, _, _, rfl⟩

def inputOf : List W → Option Ln
  | [n] => if isName n then some ⟨1, n, emp, [], .lit false⟩ else none
  | _ => none
def latchOf : List W → Option Ln
  | [n, f] => if isName n && isFirst f then some ⟨2, n, f, [], .lit false⟩ else none
  | _ => none
def nextOfW : List W → Option Ln
  | n :: q :: e => if isName n && decide (q = eqs) then (parseW e).map fun ex => ⟨3, n, emp, e, ex⟩ else none
  | _ => none
def badOfW : List W → Option Ln
  | q :: e => if q = eqs then (parseW e).map fun ex => ⟨4, emp, emp, e, ex⟩ else none
  | _ => none
theorem lineOf_cons (x : W) (r : List W) : lineOf (x :: r) = if x = bIn then inputOf r else if x = bLatch then latchOf r else if x = bNext then nextOfW r else if x = bBad then badOfW r else none := by
  unfold lineOf inputOf latchOf nextOfW badOfW
  rfl

theorem WS.nil {w : World} {v : Value} (h : WS w v []) : ∃ a cap, v = .slice a 0 cap := WSl.nil h
theorem WS.cons {w : World} {v : Value} {x : W} {r : List W} (h : WS w v (x :: r)) : ∃ b o cap, v = .slice (some ⟨b, o, none⟩) (r.length + 1) cap ∧ r.length + 1 ≤ cap ∧ cap ≤ maxLen ∧ b < w.heap.size ∧ w.cell? ⟨b, o, none⟩ = some (.string x) ∧ WS w (.slice (if cap = 1 then some ⟨b, o, none⟩ else some ⟨b, o + 1, none⟩) r.length (cap - 1)) r := by
  obtain ⟨b, o, cap, h1, h2, h3, h4, h5, h6, h7⟩ := WSl.cons h
  exact ⟨b, o, cap, h1, h2, h3, h5, h6, h7⟩
theorem WS.two {w : World} {v : Value} {x y : W} {r : List W} (h : WS w v (x :: y :: r)) : ∃ b o cap, v = .slice (some ⟨b, o, none⟩) (r.length + 2) cap ∧ r.length + 2 ≤ cap ∧ cap ≤ maxLen ∧ b < w.heap.size ∧ w.cell? ⟨b, o, none⟩ = some (.string x) ∧ w.cell? ⟨b, o + 1, none⟩ = some (.string y) ∧ WS w (.slice (if cap = 2 then some ⟨b, o, none⟩ else some ⟨b, o + 2, none⟩) r.length (cap - 2)) r := by
  obtain ⟨a, cap, h1, h2, h3, h4⟩ := h
  obtain ⟨b, o, rfl, h5, h6, h7⟩ := h4 0 (by simp)
  obtain ⟨b', o', e, _, _, h8⟩ := h4 1 (by simp)
  cases e
  simp only [List.length_cons] at h1 h2
  refine ⟨b, o, cap, h1, h2, h3, h6, h7, h8, _, _, rfl, by omega, by omega, fun j hj => ?_⟩
  have hc : ¬ cap = 2 := by omega
  rw [if_neg hc]
  obtain ⟨b', o', e, _, _, h9⟩ := h4 (j + 2) (by simp; omega)
  cases e
  exact ⟨b, o + 2, rfl, h5, h6, by rw [show o + 2 + j = o + (j + 2) by omega]; simpa using h9⟩
theorem wds_nil (w : World) (base : Nat) : Wds w base (.slice none 0 0) [] := World.ownsRow_nil _ _ _ _

set_option maxRecDepth 100000 in
set_option maxHeartbeats 1000000 in
theorem readInput_any {w : World} {v : Value} {ws : List W} (hv : WS w v ws) (hpos : ∀ x ∈ ws, 0 < ByteArray.size x) :
    Calls Tryz.prog 123 #[v] w fun e w' => Keeps [] w w' ∧ LineIs w.heap.size (inputOf ws) e w' := by
  have hno : ∀ (a : Option Addr) (n cap : Nat), n ≠ 1 → inputOf ws = none → Calls Tryz.prog 123 #[.slice a n cap] w fun e w' => Keeps [] w w' ∧ LineIs w.heap.size (inputOf ws) e w' := by
    intro a n cap hn hr
    have q1 : ((n : Int) != 1) = true := bne_iff_ne.2 (by omega)
    have HR : Hid (inputOf ws = none) := hr
    clear hr hn
    go_enter Tryz.func123, Tryz.ntmps123
    go_wp2_with fail
    exact bodyPost_ret (v := .tuple #[.agg #[.int .i64 0, .string ⟨#[]⟩, .string ⟨#[]⟩, .slice none 0 0], .bool false]) (by simp [results, Tryz.results123, go_sem]) rfl ⟨(Keeps.refl _ _).alloc _, lineIs_no HR.out⟩
  match ws, hv, hpos, hno with
  | [], hv, hpos, hno =>
    obtain ⟨a, cap, rfl⟩ := hv.nil
    exact hno a 0 cap (by omega) rfl
  | x :: y :: r, hv, hpos, hno =>
    obtain ⟨b, o, cap, rfl, _⟩ := hv.cons
    exact hno _ _ cap (by simp) rfl
  | [x], hv, hpos, hno =>
    obtain ⟨b, o, cap, rfl, h1, h2, h3, hc, _⟩ := hv.cons
    have hx0 : 0 < ByteArray.size x := hpos x (by simp)
    have HR : Hid (inputOf [x] = if isName x then some ⟨1, x, emp, [], .lit false⟩ else none) := rfl
    clear hno hv hpos
    simp only [List.length_nil, Nat.zero_add] at *
    cases hn : isName x
    all_goals
      have HN : Hid (isName x = _) := hn
      clear hn
      go_enter Tryz.func123, Tryz.ntmps123
      go_wp2_with (first | (go_at_call 130; refine (isName_any x hx0).mono ?_; rintro e w' ⟨rfl, rfl⟩; rw [HN.out]))
    · exact bodyPost_ret (v := .tuple #[.agg #[.int .i64 0, .string ⟨#[]⟩, .string ⟨#[]⟩, .slice none 0 0], .bool false]) (by simp [results, Tryz.results123, go_sem]) rfl ⟨(Keeps.refl _ _).alloc _, lineIs_no (by rw [HR.out, HN.out]; rfl)⟩
    · refine bodyPost_ret (v := .tuple #[.agg #[.int .i64 1, .string x, .string ⟨#[]⟩, .slice none 0 0], .bool true]) (by simp [results, Tryz.results123, go_sem]) rfl ⟨(Keeps.refl _ _).alloc _, ?_⟩
      rw [HR.out, HN.out]
      exact ⟨none, 0, 0, rfl, wds_nil _ _⟩

set_option maxRecDepth 100000 in
theorem isFirst_any {w : World} (p : ByteArray) :
    Calls Tryz.prog 178 #[.string p] w fun e w' => e = .returned (.bool (isFirst p)) ∧ w = w' := by
  have HF : Hid (isFirst p = (decide (p = mk [48]) || decide (p = mk [49]) || decide (p = mk [63]))) := rfl
  cases h1 : decide (p = mk [48]) <;> cases h2 : decide (p = mk [49]) <;> cases h3 : decide (p = mk [63])
  all_goals
    have q1 := lit_eq p [48] _ h1
    have q2 := lit_eq p [49] _ h2
    have q3 := lit_eq p [63] _ h3
    rw [h1, h2, h3] at HF
    clear h1 h2 h3
    go_enter Tryz.func178, Tryz.ntmps178
    go_wp2_with fail
    go_ret
    refine ⟨ret_bool ?_, rfl⟩
    rw [HF.out]
    try rfl

set_option maxRecDepth 100000 in
set_option maxHeartbeats 1000000 in
theorem readLatch_any {w : World} {v : Value} {ws : List W} (hv : WS w v ws) (hpos : ∀ x ∈ ws, 0 < ByteArray.size x) :
    Calls Tryz.prog 124 #[v] w fun e w' => Keeps [] w w' ∧ LineIs w.heap.size (latchOf ws) e w' := by
  have hno : ∀ (a : Option Addr) (n cap : Nat), n ≠ 2 → latchOf ws = none → Calls Tryz.prog 124 #[.slice a n cap] w fun e w' => Keeps [] w w' ∧ LineIs w.heap.size (latchOf ws) e w' := by
    intro a n cap hn hr
    have q1 : ((n : Int) != 2) = true := bne_iff_ne.2 (by omega)
    have HR : Hid (latchOf ws = none) := hr
    clear hr hn
    go_enter Tryz.func124, Tryz.ntmps124
    go_wp2_with fail
    exact bodyPost_ret (v := .tuple #[.agg #[.int .i64 0, .string ⟨#[]⟩, .string ⟨#[]⟩, .slice none 0 0], .bool false]) (by simp [results, Tryz.results124, go_sem]) rfl ⟨(Keeps.refl _ _).alloc _, lineIs_no HR.out⟩
  match ws, hv, hpos, hno with
  | [], hv, hpos, hno =>
    obtain ⟨a, cap, rfl⟩ := hv.nil
    exact hno a 0 cap (by omega) rfl
  | [x], hv, hpos, hno =>
    obtain ⟨b, o, cap, rfl, _⟩ := hv.cons
    exact hno _ _ cap (by simp) rfl
  | x :: y :: z :: r, hv, hpos, hno =>
    obtain ⟨b, o, cap, rfl, _⟩ := hv.cons
    exact hno _ _ cap (by simp) rfl
  | [x, y], hv, hpos, hno =>
    obtain ⟨b, o, cap, rfl, h1, h2, h3, hc, hc2, _⟩ := hv.two
    have hx0 : 0 < ByteArray.size x := hpos x (by simp)
    have HR : Hid (latchOf [x, y] = if isName x && isFirst y then some ⟨2, x, y, [], .lit false⟩ else none) := rfl
    clear hno hv hpos
    simp only [List.length_nil, Nat.zero_add] at *
    cases hn : isName x <;> cases hf : isFirst y
    all_goals
      have HN : Hid (isName x = _) := hn
      have HF : Hid (isFirst y = _) := hf
      clear hn hf
      go_enter Tryz.func124, Tryz.ntmps124
      go_wp2_with (first
        | (go_at_call 130; refine (isName_any x hx0).mono ?_; rintro e w' ⟨rfl, rfl⟩; rw [HN.out])
        | (go_at_call 178; refine (isFirst_any y).mono ?_; rintro e w' ⟨rfl, rfl⟩; rw [HF.out]))
    · exact bodyPost_ret (v := .tuple #[.agg #[.int .i64 0, .string ⟨#[]⟩, .string ⟨#[]⟩, .slice none 0 0], .bool false]) (by simp [results, Tryz.results124, go_sem]) rfl ⟨(Keeps.refl _ _).alloc _, lineIs_no (by rw [HR.out, HN.out, HF.out]; rfl)⟩
    · exact bodyPost_ret (v := .tuple #[.agg #[.int .i64 0, .string ⟨#[]⟩, .string ⟨#[]⟩, .slice none 0 0], .bool false]) (by simp [results, Tryz.results124, go_sem]) rfl ⟨(Keeps.refl _ _).alloc _, lineIs_no (by rw [HR.out, HN.out, HF.out]; rfl)⟩
    · exact bodyPost_ret (v := .tuple #[.agg #[.int .i64 0, .string ⟨#[]⟩, .string ⟨#[]⟩, .slice none 0 0], .bool false]) (by simp [results, Tryz.results124, go_sem]) rfl ⟨(Keeps.refl _ _).alloc _, lineIs_no (by rw [HR.out, HN.out, HF.out]; rfl)⟩
    · go_region
      go_wp2_with fail
      refine bodyPost_ret (v := .tuple #[.agg #[.int .i64 2, .string x, .string y, .slice none 0 0], .bool true]) (by simp [results, Tryz.results124, go_sem]) rfl ⟨?_, ?_⟩
      · exact ((Keeps.refl _ _).alloc _).drew
      rw [HR.out, HN.out, HF.out]
      exact ⟨none, 0, 0, rfl, wds_nil _ _⟩

theorem ParseIs.no {base : Nat} {ws : List W} {e : Ending} {w' : World} (h : ParseIs base ws e w') (hp : parseW ws = none) : ∃ a n c, e = .returned (.tuple #[.slice a n c, .bool false]) := by
  unfold ParseIs at h; rw [hp] at h; exact h
theorem ParseIs.yes {base : Nat} {ws : List W} {ex : Ex} {e : Ending} {w' : World} (h : ParseIs base ws e w') (hp : parseW ws = some ex) : ∃ a n c, e = .returned (.tuple #[.slice a n c, .bool true]) ∧ Wds w' base (.slice a n c) ex.post := by
  unfold ParseIs at h; rw [hp] at h; exact h

/-- the line that is being made, behind a call -/
theorem line_box {w w2 : World} (hk : Keeps [] (w.alloc (.cells #[.int .i64 0, .string ⟨#[]⟩, .string ⟨#[]⟩, .slice none 0 0] 139)) w2) :
    w2.cell? ⟨w.heap.size, 0, none⟩ = some (.int .i64 0) ∧ w2.cell? ⟨w.heap.size, 1, none⟩ = some (.string ⟨#[]⟩) ∧ w2.cell? ⟨w.heap.size, 2, none⟩ = some (.string ⟨#[]⟩) ∧ w2.cell? ⟨w.heap.size, 3, none⟩ = some (.slice none 0 0) ∧
    w2.frozen? ⟨w.heap.size, 0, none⟩ = false ∧ w2.frozen? ⟨w.heap.size, 1, none⟩ = false ∧ w2.frozen? ⟨w.heap.size, 2, none⟩ = false ∧ w2.frozen? ⟨w.heap.size, 3, none⟩ = false ∧ w.heap.size < w2.heap.size ∧ Keeps [] w w2 := by
  have hs := hk.size
  have hf : ∀ i, w2.frozen? ⟨w.heap.size, i, none⟩ = (w.alloc (.cells #[.int .i64 0, .string ⟨#[]⟩, .string ⟨#[]⟩, .slice none 0 0] 139)).frozen? ⟨w.heap.size, i, none⟩ := fun i => hk.frozen (p := ⟨w.heap.size, i, none⟩) (by simp) (by simp)
  refine ⟨hk.cell (by simp) (by simp), hk.cell (by simp) (by simp), hk.cell (by simp) (by simp), hk.cell (by simp) (by simp), (hf 0).trans (by simp), (hf 1).trans (by simp), (hf 2).trans (by simp), (hf 3).trans (by simp), by simp at hs; omega, ((Keeps.refl [] w).alloc _).trans hk⟩
theorem keeps_new4 {w w2 : World} (hk : Keeps [] w w2) {a b c d : Value} : Keeps [] w ((((w2.setCell ⟨w.heap.size, 0, none⟩ a).setCell ⟨w.heap.size, 1, none⟩ b).setCell ⟨w.heap.size, 2, none⟩ c).setCell ⟨w.heap.size, 3, none⟩ d) :=
  (((hk.setCell _ (Or.inr (by simp)) _).setCell _ (Or.inr (by simp)) _).setCell _ (Or.inr (by simp)) _).setCell _ (Or.inr (by simp)) _
theorem wds_new4 {w w2 : World} {o : Obj} {v : Value} {l : List W} (h : Wds w2 (w.alloc o).heap.size v l) {a b c d : Value} : Wds ((((w2.setCell ⟨w.heap.size, 0, none⟩ a).setCell ⟨w.heap.size, 1, none⟩ b).setCell ⟨w.heap.size, 2, none⟩ c).setCell ⟨w.heap.size, 3, none⟩ d) w.heap.size v l :=
  (h.keeps (S := [w.heap.size]) (((((Keeps.refl _ _).setCell _ (Or.inl (by simp)) _).setCell _ (Or.inl (by simp)) _).setCell _ (Or.inl (by simp)) _).setCell _ (Or.inl (by simp)) _) (by simp)).base (by simp)

set_option maxRecDepth 100000 in
set_option maxHeartbeats 1000000 in
theorem readNext_any {w : World} {v : Value} {ws : List W} (hv : WS w v ws) (hpos : ∀ x ∈ ws, 0 < ByteArray.size x) (hl : ws.length ≤ 2000) :
    Calls Tryz.prog 125 #[v] w fun e w' => Keeps [] w w' ∧ LineIs w.heap.size (nextOfW ws) e w' := by
  have hno : ∀ (a : Option Addr) (n cap : Nat), n < 2 → nextOfW ws = none → Calls Tryz.prog 125 #[.slice a n cap] w fun e w' => Keeps [] w w' ∧ LineIs w.heap.size (nextOfW ws) e w' := by
    intro a n cap hn hr
    have q1 : (n : Int) < 2 := by omega
    have HR : Hid (nextOfW ws = none) := hr
    clear hr hn
    go_enter Tryz.func125, Tryz.ntmps125
    go_wp2_with fail
    exact bodyPost_ret (v := .tuple #[.agg #[.int .i64 0, .string ⟨#[]⟩, .string ⟨#[]⟩, .slice none 0 0], .bool false]) (by simp [results, Tryz.results125, go_sem]) rfl ⟨(Keeps.refl _ _).alloc _, lineIs_no HR.out⟩
  match ws, hv, hpos, hl, hno with
  | [], hv, hpos, hl, hno =>
    obtain ⟨a, cap, rfl⟩ := hv.nil
    exact hno a 0 cap (by omega) rfl
  | [x], hv, hpos, hl, hno =>
    obtain ⟨b, o, cap, rfl, _⟩ := hv.cons
    exact hno _ _ cap (by simp) rfl
  | x :: y :: r, hv, hpos, hl, hno =>
    obtain ⟨b, o, cap, rfl, h1, h2, h3, hc, hc2, hrest⟩ := hv.two
    have hx0 : 0 < ByteArray.size x := hpos x (by simp)
    have hr0 : ∀ z ∈ r, 0 < ByteArray.size z := fun z hz => hpos z (by simp [hz])
    have HR : Hid (nextOfW (x :: y :: r) = if isName x && decide (y = eqs) then (parseW r).map fun ex => ⟨3, x, emp, r, ex⟩ else none) := rfl
    have hrl : r.length ≤ 2000 := by simp at hl; omega
    have hq0 : (2 : Int) ≤ ((r.length + 2 : Nat) : Int) := by omega
    clear hno hv hpos hl
    cases hn : isName x
    · have HN : Hid (isName x = _) := hn
      clear hn
      go_enter Tryz.func125, Tryz.ntmps125
      go_wp2_with (first
        | (go_at_call 130; refine (isName_any x hx0).mono ?_; rintro e w' ⟨rfl, rfl⟩; rw [HN.out]))
      exact bodyPost_ret (v := .tuple #[.agg #[.int .i64 0, .string ⟨#[]⟩, .string ⟨#[]⟩, .slice none 0 0], .bool false]) (by simp [results, Tryz.results125, go_sem]) rfl ⟨(Keeps.refl _ _).alloc _, lineIs_no (by rw [HR.out, HN.out]; rfl)⟩
    · have HN : Hid (isName x = _) := hn
      clear hn
      cases he : decide (y = eqs)
      · have q2 := lit_eq y [61] _ he
        have HE : Hid (decide (y = eqs) = _) := he
        clear he
        go_enter Tryz.func125, Tryz.ntmps125
        go_wp2_with (first
          | (go_at_call 130; refine (isName_any x hx0).mono ?_; rintro e w' ⟨rfl, rfl⟩; rw [HN.out]))
        exact bodyPost_ret (v := .tuple #[.agg #[.int .i64 0, .string ⟨#[]⟩, .string ⟨#[]⟩, .slice none 0 0], .bool false]) (by simp [results, Tryz.results125, go_sem]) rfl ⟨(Keeps.refl _ _).alloc _, lineIs_no (by rw [HR.out, HN.out, HE.out]; rfl)⟩
      · have q2 := lit_eq y [61] _ he
        have HE : Hid (decide (y = eqs) = _) := he
        clear he
        by_cases e2 : cap = 2
        · subst e2
          obtain rfl : r = [] := List.length_eq_zero_iff.1 (by omega)
          have HP : Hid (∀ w1, Keeps [] w w1 → Calls Tryz.prog 179 #[.slice (some ⟨b, o, none⟩) 0 0] w1 fun e w' => Keeps [] w1 w' ∧ ParseIs w1.heap.size [] e w') := fun w1 hk1 => parse_any ⟨_, _, rfl, by simp, by decide, fun j hj => by simp at hj⟩ (by simp) (by simp)
          clear hrest h1 hrl hq0 hr0
          simp only [List.length_nil, Nat.zero_add]
          go_enter Tryz.func125, Tryz.ntmps125
          go_wp2_with (first
            | (go_at_call 130; refine (isName_any x hx0).mono ?_; rintro e w' ⟨rfl, rfl⟩; rw [HN.out])
            | (go_at_call 179; refine (HP.out _ ((Keeps.refl _ _).alloc _)).mono ?_; rintro e w2 ⟨hk2, hpi⟩; obtain ⟨pa, pn, pc, rfl⟩ := hpi.no rfl; clear hpi; obtain ⟨z0, z1, z2, z3, y0, y1, y2, y3, hlt2, hkw⟩ := line_box hk2; have hcx := hkw.cell hc (by simp)))
          exact bodyPost_ret (v := .tuple #[.agg #[.int .i64 3, .string x, .string ⟨#[]⟩, .slice pa pn pc], .bool false]) (by simp [results, Tryz.results125, go_sem, z0, z1, z2, z3]) rfl ⟨keeps_new4 hkw, lineIs_no (by rw [HR.out, HN.out, HE.out]; rfl)⟩
        · rw [if_neg e2] at hrest
          have HP : Hid (∀ w1, Keeps [] w w1 → Calls Tryz.prog 179 #[.slice (some ⟨b, o + 2, none⟩) r.length (cap - 2)] w1 fun e w' => Keeps [] w1 w' ∧ ParseIs w1.heap.size r e w') := fun w1 hk1 => parse_any (hrest.keeps hk1) hrl hr0
          have hq3 : (2 : Int) ≤ (cap : Int) := by omega
          clear hrest
          cases hp : parseW r with
          | none =>
            have HPr : Hid (parseW r = none) := hp
            clear hp
            go_enter Tryz.func125, Tryz.ntmps125
            go_wp2_with (first
              | (go_at_call 130; refine (isName_any x hx0).mono ?_; rintro e w' ⟨rfl, rfl⟩; rw [HN.out])
              | (go_at_call 179; refine (HP.out _ ((Keeps.refl _ _).alloc _)).mono ?_; rintro e w2 ⟨hk2, hpi⟩; obtain ⟨pa, pn, pc, rfl⟩ := hpi.no HPr.out; clear hpi; obtain ⟨z0, z1, z2, z3, y0, y1, y2, y3, hlt2, hkw⟩ := line_box hk2; have hcx := hkw.cell hc (by simp)))
            exact bodyPost_ret (v := .tuple #[.agg #[.int .i64 3, .string x, .string ⟨#[]⟩, .slice pa pn pc], .bool false]) (by simp [results, Tryz.results125, go_sem, z0, z1, z2, z3]) rfl ⟨keeps_new4 hkw, lineIs_no (by rw [HR.out, HN.out, HE.out, HPr.out]; rfl)⟩
          | some ex =>
            have HPr : Hid (parseW r = some ex) := hp
            clear hp
            go_enter Tryz.func125, Tryz.ntmps125
            go_wp2_with (first
              | (go_at_call 130; refine (isName_any x hx0).mono ?_; rintro e w' ⟨rfl, rfl⟩; rw [HN.out])
              | (go_at_call 179; refine (HP.out _ ((Keeps.refl _ _).alloc _)).mono ?_; rintro e w2 ⟨hk2, hpi⟩; obtain ⟨pa, pn, pc, rfl, hW2⟩ := hpi.yes HPr.out; clear hpi; obtain ⟨z0, z1, z2, z3, y0, y1, y2, y3, hlt2, hkw⟩ := line_box hk2; have hcx := hkw.cell hc (by simp)))
            refine bodyPost_ret (v := .tuple #[.agg #[.int .i64 3, .string x, .string ⟨#[]⟩, .slice pa pn pc], .bool true]) (by simp [results, Tryz.results125, go_sem, z0, z1, z2, z3]) rfl ⟨keeps_new4 hkw, ?_⟩
            rw [HR.out, HN.out, HE.out, HPr.out]
            exact ⟨pa, pn, pc, rfl, wds_new4 hW2⟩

end Go.Proofs.YtmgjegokkbghlaaGreatDoor
