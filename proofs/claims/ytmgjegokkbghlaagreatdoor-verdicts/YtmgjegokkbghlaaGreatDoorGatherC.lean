/- The walk of gather. -/
import Derived.Test.YtmgjegokkbghlaaGreatDoorUnknown
import Derived.Maps.AppendAt
import Derived.Deep.DrawnRows
import Derived.Deep.RegionHeld3
import Derived.Handy
namespace Go.Proofs.YtmgjegokkbghlaaGreatDoor
open Go.RowKit Go.Maps Gram Circ
set_option linter.unusedVariables false

/-- the last line that tells what comes next -/
def lastIdx (p : List Ln) (n : W) : Option Nat := (List.range p.length).reverse.find? fun i => (nth p i).kind == 3 && decide ((nth p i).name = n)
theorem nth_left {p q : List Ln} {i : Nat} (hi : i < p.length) : nth (p ++ q) i = nth p i := by
  simp [nth, List.getD, hi, List.getElem?_append_left]
theorem nth_last (p : List Ln) (x : Ln) : nth (p ++ [x]) p.length = x := by simp [nth, List.getD]
theorem find_congr {α : Type} {f g : α → Bool} : ∀ {l : List α}, (∀ x ∈ l, f x = g x) → l.find? f = l.find? g
  | [], _ => rfl
  | x :: l, h => by
    rw [List.find?_cons, List.find?_cons, h x (by simp), find_congr (fun y hy => h y (by simp [hy]))]
theorem lastIdx_add (p : List Ln) (x : Ln) (n : W) : lastIdx (p ++ [x]) n = if x.kind = 3 ∧ x.name = n then some p.length else lastIdx p n := by
  unfold lastIdx
  rw [List.length_append, List.length_singleton, List.range_succ, List.reverse_append, List.reverse_singleton, List.singleton_append, List.find?_cons, nth_last]
  by_cases h : x.kind = 3 ∧ x.name = n
  · simp [h]
  · rw [if_neg h]
    have hf : (x.kind == 3 && decide (x.name = n)) = false := by
      simp only [Bool.and_eq_false_iff, beq_eq_false_iff_ne, decide_eq_false_iff_not]
      by_cases h3 : x.kind = 3
      · exact Or.inr fun e => h ⟨h3, e⟩
      · exact Or.inl h3
    rw [hf]
    simp only
    exact find_congr fun i hi => by
      have : i < p.length := by simpa using hi
      rw [nth_left this]
def nextG (p : List Ln) (v : Value) : Option Value := match v with
  | .string n => (lastIdx p n).map fun (i : Nat) => Value.int .i64 (i : Int)
  | _ => none
theorem nextG_nil (v : Value) : nextG [] v = none := by cases v <;> rfl
theorem nextG_set {p : List Ln} {x : Ln} (h : x.kind = 3) (v : Value) : setG (nextG p) (.string x.name) (some (.int .i64 (p.length : Int))) v = nextG (p ++ [x]) v := by
  by_cases e : v = .string x.name
  · subst e
    rw [setG_same]
    simp [nextG, lastIdx_add, h]
  · rw [setG_other _ _ e]
    cases v with
    | string n =>
      have hn : ¬ x.name = n := fun hh => e (by rw [hh])
      simp [nextG, lastIdx_add, hn]
    | _ => rfl
theorem nextG_skip {p : List Ln} {x : Ln} (h : ¬ x.kind = 3) (v : Value) : nextG p v = nextG (p ++ [x]) v := by
  cases v with
  | string n => simp [nextG, lastIdx_add, h]
  | _ => rfl
def badPost (p : List Ln) : List W := p.foldl (fun k x => if x.kind = 4 then lnPost x else k) []
theorem badPost_add (p : List Ln) (x : Ln) : badPost (p ++ [x]) = if x.kind = 4 then lnPost x else badPost p := by simp [badPost, List.foldl_append]
theorem named_add (k : Nat) (p : List Ln) (x : Ln) : named k (p ++ [x]) = named k p ++ if x.kind = k then [x.name] else [] := by
  unfold named
  rw [List.filter_append, List.map_append]
  by_cases h : x.kind = k <;> simp [h]
theorem latches_add (p : List Ln) (x : Ln) : latches (p ++ [x]) = latches p ++ if x.kind = 2 then [x] else [] := by
  unfold latches
  rw [List.filter_append]
  by_cases h : x.kind = 2 <;> simp [h]
def latC (l : List Ln) : List Value := l.flatMap fun x => [.string x.name, .string x.first, .slice none 0 0]
theorem latC_add (l : List Ln) (x : Ln) : latC (l ++ [x]) = latC l ++ [.string x.name, .string x.first, .slice none 0 0] := by simp [latC]
theorem latC_len (l : List Ln) : (latC l).length = l.length * 3 := by
  induction l with
  | nil => rfl
  | cons x l ih => simp only [latC, List.flatMap_cons, List.length_append, List.length_cons, List.length_nil] at ih ⊢; omega

theorem row_other {w w1 : World} {base : Nat} {e e' : TypeId} {k k' n n' : Nat} {v u : Value} {xs ys : List Value} (h : w.ownsRow base e k v n xs) (ho : w.ownsRow base e' k' u n' ys) (hne : e ≠ e') (hg : w.grownBy w1 u.ownBlock) : w1.ownsRow base e k v n xs := by
  refine ⟨h.1, ?_⟩
  rcases h.2 with h0 | ⟨g, cap, cur, h1, h2, h3, h4⟩
  · exact Or.inl h0
  · refine Or.inr ⟨g, cap, cur, h1, h2, ?_, h4⟩
    have hgl := (Array.getElem?_eq_some_iff.1 h3).1
    rw [hg.block g hgl ?_]
    · exact h3
    · intro e
      rcases ho.2 with ⟨hv0, _⟩ | ⟨g', cap', cur', hv', hb', hgg, _⟩
      · rw [hv0] at e; cases e
      · rw [hv'] at e
        have e2 : g = g' := by simpa [Value.ownBlock] using e
        subst e2
        rw [h3] at hgg
        simp at hgg
        exact hne hgg.2
theorem own_any {w : World} {base : Nat} {e : TypeId} {n k : Nat} {v : Value} {xs : List Value} (h : w.ownsRow base e n v k xs) : ∃ a c, v = .slice a k c := by
  rcases h.2 with ⟨h0, h1⟩ | ⟨g, cap, cur, hv, _⟩
  · exact ⟨none, 0, by rw [h0, h1]⟩
  · exact ⟨_, _, hv⟩

/-- a circuit that is being made -/
structure GatAt (w0 w : World) (C base : Nat) (p : List Ln) (vi vl vb : Value) : Prop where
  lt : C < w.heap.size
  ltb : C < base
  c0 : w.cell? ⟨C, 0, none⟩ = some vi
  c1 : w.cell? ⟨C, 1, none⟩ = some vl
  c2 : w.cell? ⟨C, 2, none⟩ = some vb
  f0 : w.frozen? ⟨C, 0, none⟩ = false
  f1 : w.frozen? ⟨C, 1, none⟩ = false
  f2 : w.frozen? ⟨C, 2, none⟩ = false
  ins : Wds w base vi (named 1 p)
  lats : w.ownsRow base 94 3 vl (latches p).length (latC (latches p))
  bad : WS w0 vb (badPost p)
  bads : ∃ a n c, vb = .slice a n c
theorem GatAt.keeps {w0 w w' : World} {C base : Nat} {p : List Ln} {vi vl vb : Value} {S : List Nat} (h : GatAt w0 w C base p vi vl vb) (hk : Keeps S w w') (hS : ∀ i ∈ S, i < base ∧ i ≠ C) : GatAt w0 w' C base p vi vl vb := by
  have hn : C ∉ S := fun hc => (hS C hc).2 rfl
  exact ⟨Nat.lt_of_lt_of_le h.lt hk.size, h.ltb, hk.cell h.c0 hn, hk.cell h.c1 hn, hk.cell h.c2 hn, (hk.frozen (p := ⟨C, 0, none⟩) h.lt hn).trans h.f0, (hk.frozen (p := ⟨C, 1, none⟩) h.lt hn).trans h.f1, (hk.frozen (p := ⟨C, 2, none⟩) h.lt hn).trans h.f2, h.ins.keeps hk (fun i hi => (hS i hi).1), row_keeps h.lats hk (fun i hi => (hS i hi).1), h.bad, h.bads⟩
theorem GatAt.skip {w0 w : World} {C base : Nat} {p : List Ln} {x : Ln} {vi vl vb : Value} (h : GatAt w0 w C base p vi vl vb) (h1 : ¬ x.kind = 1) (h2 : ¬ x.kind = 2) (h4 : ¬ x.kind = 4) : GatAt w0 w C base (p ++ [x]) vi vl vb :=
  ⟨h.lt, h.ltb, h.c0, h.c1, h.c2, h.f0, h.f1, h.f2, by rw [named_add, if_neg h1, List.append_nil]; exact h.ins, by rw [latches_add, if_neg h2, List.append_nil]; exact h.lats, by rw [badPost_add, if_neg h4]; exact h.bad, h.bads⟩
/-- what an append leaves as it is -/
structure GatCells (w1 : World) (C : Nat) (vi vl vb : Value) : Prop where
  c0 : w1.cell? ⟨C, 0, none⟩ = some vi
  c1 : w1.cell? ⟨C, 1, none⟩ = some vl
  c2 : w1.cell? ⟨C, 2, none⟩ = some vb
  f0 : w1.frozen? ⟨C, 0, none⟩ = false
  f1 : w1.frozen? ⟨C, 1, none⟩ = false
  f2 : w1.frozen? ⟨C, 2, none⟩ = false
  size : C < w1.heap.size
theorem GatAt.cells {w0 w w1 : World} {C base : Nat} {p : List Ln} {vi vl vb : Value} {row : Option Nat} (h : GatAt w0 w C base p vi vl vb) (hg : w.grownBy w1 row) (hr : ∀ k, row = some k → base ≤ k) (hb : base ≤ w.heap.size) : GatCells w1 C vi vl vb := by
  have hlt := h.ltb
  have hB : Below base w w1 := (Below.refl _ w).grown hg hb hr
  exact ⟨(hB.cell (p := ⟨C, 0, none⟩) hlt).trans h.c0, (hB.cell (p := ⟨C, 1, none⟩) hlt).trans h.c1, (hB.cell (p := ⟨C, 2, none⟩) hlt).trans h.c2, (hB.frozen (p := ⟨C, 0, none⟩) hlt).trans h.f0, (hB.frozen (p := ⟨C, 1, none⟩) hlt).trans h.f1, (hB.frozen (p := ⟨C, 2, none⟩) hlt).trans h.f2, Nat.lt_of_lt_of_le h.lt hB.size⟩
theorem own_base {w : World} {base : Nat} {e : TypeId} {n k : Nat} {v : Value} {xs : List Value} (h : w.ownsRow base e n v k xs) : ∀ k, v.ownBlock = some k → base ≤ k := fun k hk => (h.lt k hk).1
theorem ty_ne : (94 : Nat) ≠ 9 := by decide
theorem GatAt.inp {w0 w w1 : World} {C base : Nat} {p : List Ln} {x : Ln} {vi vl vb vi' : Value} (h : GatAt w0 w C base p vi vl vb) (hx : x.kind = 1) (hb : base ≤ w.heap.size) (hown : w1.ownsRow base 9 1 vi' ((named 1 p).length + 1) ((named 1 p).map Value.string ++ [.string x.name])) (hg : w.grownBy w1 vi.ownBlock) : GatAt w0 (w1.setCell ⟨C, 0, none⟩ vi') C base (p ++ [x]) vi' vl vb := by
  have hc := h.cells hg (own_base h.ins) hb
  have hk : Keeps [C] w1 (w1.setCell ⟨C, 0, none⟩ vi') := (Keeps.refl _ _).setCell _ (Or.inl (by simp)) _
  have hlt := h.ltb
  refine ⟨by simp; exact hc.size, hlt, cell_set hc.c0, (cell_off (by simp)).trans hc.c1, (cell_off (by simp)).trans hc.c2, by rw [World.frozen?_setCell]; exact hc.f0, by rw [World.frozen?_setCell]; exact hc.f1, by rw [World.frozen?_setCell]; exact hc.f2, ?_, ?_, by rw [badPost_add, if_neg (by omega)]; exact h.bad, h.bads⟩
  · rw [named_add, if_pos hx]
    have : Wds w1 base vi' (named 1 p ++ [x.name]) := by unfold Wds; rw [List.length_append, List.map_append]; exact hown
    exact this.keeps hk (by simpa using hlt)
  · rw [latches_add, if_neg (by omega), List.append_nil]
    exact row_keeps (row_other h.lats h.ins ty_ne hg) hk (by simpa using hlt)
theorem GatAt.lat {w0 w w1 : World} {C base : Nat} {p : List Ln} {x : Ln} {vi vl vb vl' : Value} (h : GatAt w0 w C base p vi vl vb) (hx : x.kind = 2) (hb : base ≤ w.heap.size) (hown : w1.ownsRow base 94 3 vl' ((latches p).length + 1) (latC (latches p) ++ [.string x.name, .string x.first, .slice none 0 0])) (hg : w.grownBy w1 vl.ownBlock) : GatAt w0 (w1.setCell ⟨C, 1, none⟩ vl') C base (p ++ [x]) vi vl' vb := by
  have hc := h.cells hg (own_base h.lats) hb
  have hk : Keeps [C] w1 (w1.setCell ⟨C, 1, none⟩ vl') := (Keeps.refl _ _).setCell _ (Or.inl (by simp)) _
  have hlt := h.ltb
  refine ⟨by simp; exact hc.size, hlt, (cell_off (by simp)).trans hc.c0, cell_set hc.c1, (cell_off (by simp)).trans hc.c2, by rw [World.frozen?_setCell]; exact hc.f0, by rw [World.frozen?_setCell]; exact hc.f1, by rw [World.frozen?_setCell]; exact hc.f2, ?_, ?_, by rw [badPost_add, if_neg (by omega)]; exact h.bad, h.bads⟩
  · rw [named_add, if_neg (by omega), List.append_nil]
    exact Wds.keeps (row_other h.ins h.lats ty_ne.symm hg) hk (by simpa using hlt)
  · rw [latches_add, if_pos hx, latC_add, List.length_append]
    exact row_keeps hown hk (by simpa using hlt)
theorem GatAt.badd {w0 w : World} {C base : Nat} {p : List Ln} {x : Ln} {vi vl vb : Value} {a : Option Addr} {n c : Nat} (h : GatAt w0 w C base p vi vl vb) (hx : x.kind = 4) (hv : WS w0 (.slice a n c) (lnPost x)) : GatAt w0 (w.setCell ⟨C, 2, none⟩ (.slice a n c)) C base (p ++ [x]) vi vl (.slice a n c) := by
  have hk : Keeps [C] w (w.setCell ⟨C, 2, none⟩ (.slice a n c)) := (Keeps.refl _ _).setCell _ (Or.inl (by simp)) _
  have hlt := h.ltb
  refine ⟨by simp; exact h.lt, hlt, (cell_off (by simp)).trans h.c0, (cell_off (by simp)).trans h.c1, cell_set h.c2, by rw [World.frozen?_setCell]; exact h.f0, by rw [World.frozen?_setCell]; exact h.f1, by rw [World.frozen?_setCell]; exact h.f2, ?_, ?_, by rw [badPost_add, if_pos hx]; exact hv, ⟨_, _, _, rfl⟩⟩
  · rw [named_add, if_neg (by omega), List.append_nil]
    exact h.ins.keeps hk (by simpa using hlt)
  · rw [latches_add, if_neg (by omega), List.append_nil]
    exact row_keeps h.lats hk (by simpa using hlt)
theorem infoLatch : (Tryz.prog.info? 94).map (fun i => (i.zero, i.size, i.bytes)) = some (some (.agg #[.string ByteArray.empty, .string ByteArray.empty, .slice none 0 0]), 3, 56) := by kernel_rfl

/-- the place of the answer, still empty -/
structure Blank (w : World) (R : Nat) : Prop where
  c0 : w.cell? ⟨R, 0, none⟩ = some (.slice none 0 0)
  c1 : w.cell? ⟨R, 1, none⟩ = some (.slice none 0 0)
  c2 : w.cell? ⟨R, 2, none⟩ = some (.slice none 0 0)
  f0 : w.frozen? ⟨R, 0, none⟩ = false
  f1 : w.frozen? ⟨R, 1, none⟩ = false
  f2 : w.frozen? ⟨R, 2, none⟩ = false
  lt : R < w.heap.size
theorem Blank.keeps {w w' : World} {R : Nat} {S : List Nat} (h : Blank w R) (hk : Keeps S w w') (hS : R ∉ S) : Blank w' R :=
  ⟨hk.cell h.c0 hS, hk.cell h.c1 hS, hk.cell h.c2 hS, (hk.frozen (p := ⟨R, 0, none⟩) h.lt hS).trans h.f0, (hk.frozen (p := ⟨R, 1, none⟩) h.lt hS).trans h.f1, (hk.frozen (p := ⟨R, 2, none⟩) h.lt hS).trans h.f2, Nat.lt_of_lt_of_le h.lt hk.size⟩

theorem kept_app {w wr w1 : World} {o o' : Obj} {row : Option Nat} {C k : Nat} {v : Value} (hk : Keeps [] w wr) (hC : w.heap.size ≤ C) (hr : ∀ k, row = some k → w.heap.size + 3 ≤ k) (hg : ((wr.alloc o).alloc o').grownBy w1 row) : Keeps (C :: row.toList) wr (w1.setCell ⟨C, k, none⟩ v) ∧ Keeps [] w (w1.setCell ⟨C, k, none⟩ v) := by
  have h1 : Keeps (C :: row.toList) wr (w1.setCell ⟨C, k, none⟩ v) := ((((Keeps.refl _ _).alloc o).alloc o').grown hg (fun j e => Or.inl (by simp [e]))).setCell _ (Or.inl (by simp)) _
  refine ⟨h1, ((hk.mono (by simp)).trans h1).strike (fun i hi hlt => ?_)⟩
  simp at hi
  rcases hi with rfl | e
  · omega
  · have := hr i e; omega
theorem not_in {C M b : Nat} {row : Option Nat} (h1 : M ≠ C) (h2 : M < b) (hr : ∀ k, row = some k → b ≤ k) : M ∉ C :: row.toList := by
  simp only [List.mem_cons, Option.mem_toList, not_or]
  exact ⟨h1, fun e => by have := hr M e; omega⟩
theorem hid_intro {P : Prop} (h : P) : Hid P := h
def nextPost (ls : List Ln) (n : W) : List W := lnPost (nth ls ((lastIdx ls n).getD 0))
/-- the latches, the first i of them whole -/
def LatIs (w wr : World) (ls : List Ln) (a1 : Option Addr) (i : Nat) : Prop := ∀ k (hk : k < (latches ls).length), ∃ b u, a1 = some ⟨b, 0, none⟩ ∧ w.heap.size + 3 ≤ b ∧ b < wr.heap.size ∧ wr.cell? ⟨b, k * 3, none⟩ = some (.string (latches ls)[k].name) ∧ wr.cell? ⟨b, k * 3 + 1, none⟩ = some (.string (latches ls)[k].first) ∧ wr.cell? ⟨b, k * 3 + 2, none⟩ = some u ∧ wr.frozen? ⟨b, k * 3 + 2, none⟩ = false ∧ (i ≤ k → u = .slice none 0 0) ∧ (k < i → ∃ a n c, u = .slice a n c ∧ WS w u (nextPost ls (latches ls)[k].name))
structure GatFin (w wr : World) (ls : List Ln) (C M n : Nat) (a0 : Option Addr) (n0 m0 : Nat) (a1 : Option Addr) (m1 : Nat) (a2 : Option Addr) (n2 m2 i : Nat) : Prop where
  lt : C < wr.heap.size
  c0 : wr.cell? ⟨C, 0, none⟩ = some (.slice a0 n0 m0)
  c1 : wr.cell? ⟨C, 1, none⟩ = some (.slice a1 (latches ls).length m1)
  c2 : wr.cell? ⟨C, 2, none⟩ = some (.slice a2 n2 m2)
  ins : WS wr (.slice a0 n0 m0) (named 1 ls)
  insr : WSl wr w.heap.size (.slice a0 n0 m0) (named 1 ls)
  insb : ∀ b, a1 = some ⟨b, 0, none⟩ → WSl wr b (.slice a0 n0 m0) (named 1 ls)
  lat : LatIs w wr ls a1 i
  bad : WS w (.slice a2 n2 m2) (badPost ls)
  map : MapIs wr Tryz.prog 9 M n (nextG ls)
  bl : Blank wr w.heap.size
  keeps : Keeps [] w wr
theorem zeroI (w : World) : (zeroValue 3).run Tryz.prog w = .ok (.int .i64 0) w := by kernel_rfl
theorem lastIdx_lt {ls : List Ln} {n : W} (h : 0 < ls.length) : (lastIdx ls n).getD 0 < ls.length := by
  cases hf : lastIdx ls n with
  | none => simpa using h
  | some i =>
    have := List.mem_of_find?_eq_some hf
    simpa using this
theorem nextG_get (ls : List Ln) (n : W) : (nextG ls (.string n)).getD (.int .i64 0) = .int .i64 (((lastIdx ls n).getD 0 : Nat) : Int) := by
  show ((lastIdx ls n).map fun (i : Nat) => Value.int .i64 (i : Int)).getD (.int .i64 0) = _
  cases lastIdx ls n <;> rfl
theorem ins_start {wr : World} {base : Nat} {v : Value} {l : List W} {a1 : Option Addr} {k n m : Nat} {xs : List Value} (hi : Wds wr base v l) (hl : wr.ownsRow base 94 3 (.slice a1 n m) k xs) : ∀ b, a1 = some ⟨b, 0, none⟩ → WSl wr b v l := by
  rintro b rfl
  have hh := hi
  rcases hl.2 with ⟨h0, _⟩ | ⟨g', cap', cur', hv', hb', hgg', _⟩
  · simp at h0
  · obtain ⟨rfl, _⟩ : b = g' ∧ _ := by simpa using hv'
    rcases hi.2 with ⟨h0, h1⟩ | ⟨g, cap, cur, hv, hb, hgg, hle, hmx, rest⟩
    · refine ⟨none, 0, ?_, by omega, by omega, fun j hj => by omega⟩
      rw [h0, h1]
    · refine ⟨some ⟨g, 0, none⟩, cap, hv, by omega, hmx, fun j hj => ⟨g, 0, rfl, ?_, (Array.getElem?_eq_some_iff.1 hgg).1, ?_⟩⟩
      · rintro rfl
        rw [hgg] at hgg'
        simp at hgg'
      · subst hv
        have := World.ownsRow.cellAt hh j (by omega)
        rw [Nat.zero_add, this]
        simp [hj]
theorem WSl.off {wr w' : World} {b : Nat} {v : Value} {l : List W} (h : WSl wr b v l) (hk : Keeps [b] wr w') : WSl w' b v l := by
  obtain ⟨a, cap, h1, h2, h3, h4⟩ := h
  refine ⟨a, cap, h1, h2, h3, fun j hj => ?_⟩
  obtain ⟨b', o, k1, k2, k3, k4⟩ := h4 j hj
  exact ⟨b', o, k1, k2, Nat.lt_of_lt_of_le k3 hk.size, hk.cell k4 (by simpa using k2)⟩
theorem WSl.both {wr w' : World} {b R : Nat} {v : Value} {l : List W} (h : WSl wr b v l) (h' : WSl wr R v l) (hk : Keeps [b] wr w') : WSl w' R v l := by
  obtain ⟨a, cap, h1, h2, h3, h4⟩ := h
  obtain ⟨a', cap', h1', h2', h3', h4'⟩ := h'
  obtain ⟨rfl, rfl⟩ : a' = a ∧ cap' = cap := by rw [h1] at h1'; simp at h1'; exact ⟨h1'.1.symm, h1'.2.symm⟩
  refine ⟨a', cap', h1', h2, h3, fun j hj => ?_⟩
  obtain ⟨b', o, k1, k2, k3, k4⟩ := h4 j hj
  obtain ⟨b2, o2, e1, e2, _, _⟩ := h4' j hj
  obtain ⟨rfl, rfl⟩ : b' = b2 ∧ o = o2 := by rw [k1] at e1; simpa using e1
  exact ⟨b', o, k1, e2, Nat.lt_of_lt_of_le k3 hk.size, hk.cell k4 (by simpa using k2)⟩
theorem Wds.wsl {w : World} {base P : Nat} {v : Value} {ws : List W} (h : Wds w base v ws) (hP : P < base) : WSl w P v ws := by
  have hh := h
  rcases h.2 with ⟨h0, h1⟩ | ⟨g, cap, cur, hv, hb, hgg, hle, hmx, rest⟩
  · refine ⟨none, 0, ?_, by omega, by omega, fun j hj => by omega⟩
    rw [h0, h1]
  · refine ⟨some ⟨g, 0, none⟩, cap, hv, by omega, hmx, fun j hj => ⟨g, 0, rfl, by omega, (Array.getElem?_eq_some_iff.1 hgg).1, ?_⟩⟩
    subst hv
    have := World.ownsRow.cellAt hh j (by omega)
    rw [Nat.zero_add, this]
    simp [hj]
theorem WSl.ws {wr : World} {b : Nat} {v : Value} {l : List W} (h : WSl wr b v l) : WS wr v l := by
  obtain ⟨a, cap, h1, h2, h3, h4⟩ := h
  refine ⟨a, cap, h1, h2, h3, fun j hj => ?_⟩
  obtain ⟨b', o, k1, k2, k3, k4⟩ := h4 j hj
  exact ⟨b', o, k1, by omega, k3, k4⟩
theorem GatFin.kept {w wr w' : World} {ls : List Ln} {C M n : Nat} {a0 : Option Addr} {n0 m0 : Nat} {a1 : Option Addr} {m1 : Nat} {a2 : Option Addr} {n2 m2 i : Nat} (h : GatFin w wr ls C M n a0 n0 m0 a1 m1 a2 n2 m2 i) (hk : Keeps [] wr w') : GatFin w w' ls C M n a0 n0 m0 a1 m1 a2 n2 m2 i := by
  refine ⟨Nat.lt_of_lt_of_le h.lt hk.size, hk.cell h.c0 (by simp), hk.cell h.c1 (by simp), hk.cell h.c2 (by simp), h.ins.keeps hk, h.insr.off (hk.mono (by simp)), fun b e => (h.insb b e).off (hk.mono (by simp)), fun k hk' => ?_, h.bad, h.map.keeps hk (by simp), h.bl.keeps hk (by simp), h.keeps.trans hk⟩
  obtain ⟨b, u, e, g1, g2, g3, g4, g5, g6, g7, g8⟩ := h.lat k hk'
  exact ⟨b, u, e, g1, Nat.lt_of_lt_of_le g2 hk.size, hk.cell g3 (by simp), hk.cell g4 (by simp), hk.cell g5 (by simp), (hk.frozen (p := ⟨b, k * 3 + 2, none⟩) g2 (by simp)).trans g6, g7, g8⟩
theorem GatFin.step {w wr : World} {ls : List Ln} {C M n : Nat} {a0 : Option Addr} {n0 m0 : Nat} {b m1 : Nat} {a2 : Option Addr} {n2 m2 i : Nat} (h : GatFin w wr ls C M n a0 n0 m0 (some ⟨b, 0, none⟩) m1 a2 n2 m2 i) (hi : i < (latches ls).length) (hC : C < w.heap.size + 3) (hM : M < w.heap.size + 3) {a : Option Addr} {nn c : Nat} (hv : WS w (.slice a nn c) (nextPost ls (latches ls)[i].name)) : GatFin w ((wr.setCell ⟨b, i * 3 + 2, none⟩ (.slice a nn c)).drew) ls C M n a0 n0 m0 (some ⟨b, 0, none⟩) m1 a2 n2 m2 (i + 1) := by
  have hk : Keeps [b] wr ((wr.setCell ⟨b, i * 3 + 2, none⟩ (.slice a nn c)).drew) := ((Keeps.refl _ _).setCell _ (Or.inl (by simp)) _).drew
  obtain ⟨b', _, e, hb1, hb2, _⟩ := h.lat i hi
  obtain rfl : b = b' := by simpa using e
  have hs := h.keeps.size
  refine ⟨Nat.lt_of_lt_of_le h.lt hk.size, hk.cell h.c0 (by simp; omega), hk.cell h.c1 (by simp; omega), hk.cell h.c2 (by simp; omega), ((h.insb b rfl).off hk).ws, (h.insb b rfl).both h.insr hk, ?_, ?_, h.bad, h.map.keeps hk (by simp; omega), h.bl.keeps hk (by simp; omega), ((h.keeps.mono (by simp)).trans hk).strike (fun i hi hlt => by simp at hi; omega)⟩
  · rintro b2 e2
    obtain rfl : b = b2 := by simpa using e2
    exact (h.insb b rfl).off hk
  · intro k hk'
    obtain ⟨b', u, e, g1, g2, g3, g4, g5, g6, g7, g8⟩ := h.lat k hk'
    obtain rfl : b = b' := by simpa using e
    have kk : ∀ (p : Addr) (v : Value), p.block = b → ((wr.setCell ⟨b, i * 3 + 2, none⟩ (.slice a nn c)).cell? p = some v) → ((wr.setCell ⟨b, i * 3 + 2, none⟩ (.slice a nn c)).drew).cell? p = some v := fun p v hp h => ((Keeps.refl [] _).drew).cell h (by simp)
    have hfr : ((wr.setCell ⟨b, i * 3 + 2, none⟩ (.slice a nn c)).drew).frozen? ⟨b, k * 3 + 2, none⟩ = false := by
      show (wr.setCell ⟨b, i * 3 + 2, none⟩ (.slice a nn c)).frozen? ⟨b, k * 3 + 2, none⟩ = false
      rw [World.frozen?_setCell]
      exact g6
    by_cases hki : k = i
    · subst hki
      refine ⟨b, .slice a nn c, rfl, g1, Nat.lt_of_lt_of_le g2 hk.size, kk _ _ rfl ((cell_off (by simp)).trans g3), kk _ _ rfl ((cell_off (by simp)).trans g4), kk _ _ rfl (cell_set g5), hfr, fun hh => by omega, fun _ => ⟨_, _, _, rfl, hv⟩⟩
    · refine ⟨b, u, rfl, g1, Nat.lt_of_lt_of_le g2 hk.size, kk _ _ rfl ((cell_off (by first | (simp; done) | (simp; omega))).trans g3), kk _ _ rfl ((cell_off (by first | (simp; done) | (simp; omega))).trans g4), kk _ _ rfl ((cell_off (by first | (simp; done) | (simp; omega))).trans g5), hfr, fun hh => g7 (by omega), fun hh => g8 (by omega)⟩
theorem latC_at {l : List Ln} : ∀ {k : Nat} (hk : k < l.length), (latC l)[k * 3]? = some (.string l[k].name) ∧ (latC l)[k * 3 + 1]? = some (.string l[k].first) ∧ (latC l)[k * 3 + 2]? = some (.slice none 0 0) := by
  induction l with
  | nil => intro k hk; simp at hk
  | cons x l ih =>
    intro k hk
    have e : latC (x :: l) = .string x.name :: .string x.first :: .slice none 0 0 :: latC l := by simp [latC]
    rw [e]
    cases k with
    | zero => simp
    | succ k =>
      have := ih (k := k) (by simpa using hk)
      rw [show (k + 1) * 3 = k * 3 + 3 by omega]
      simpa using this
theorem lat_start {w wr : World} {ls : List Ln} {C : Nat} {a1 : Option Addr} {m1 : Nat} (h : wr.ownsRow (w.heap.size + 3) 94 3 (.slice a1 (latches ls).length m1) (latches ls).length (latC (latches ls))) (hC : C < wr.heap.size) : LatIs w wr ls a1 0 := by
  intro k hk
  rcases h.2 with ⟨h0, h1⟩ | ⟨g, cap, cur, hv, hb, hgg, hle, hmx, hcs, htake⟩
  · omega
  · obtain ⟨rfl, _, rfl⟩ : a1 = some ⟨g, 0, none⟩ ∧ (latches ls).length = (latches ls).length ∧ m1 = cap := by simpa using hv
    have hat := latC_at hk
    have hc : ∀ j, j < (latches ls).length * 3 → wr.cell? ⟨g, j, none⟩ = (latC (latches ls))[j]? := by
      intro j hj
      exact h.cellAt j hj
    refine ⟨g, .slice none 0 0, rfl, hb, (Array.getElem?_eq_some_iff.1 hgg).1, by rw [hc _ (by omega)]; exact hat.1, by rw [hc _ (by omega)]; exact hat.2.1, by rw [hc _ (by omega)]; exact hat.2.2, by simp [World.frozen?, hgg], fun _ => rfl, fun hh => by omega⟩
/-- a circuit in memory -/
structure CirAt (w : World) (ls : List Ln) (vi : Value) (a1 : Option Addr) (vb : Value) : Prop where
  ins : WS w vi (named 1 ls)
  lat : ∀ k (hk : k < (latches ls).length), ∃ b a n c, a1 = some ⟨b, 0, none⟩ ∧ b < w.heap.size ∧ w.cell? ⟨b, k * 3, none⟩ = some (.string (latches ls)[k].name) ∧ w.cell? ⟨b, k * 3 + 1, none⟩ = some (.string (latches ls)[k].first) ∧ w.cell? ⟨b, k * 3 + 2, none⟩ = some (.slice a n c) ∧ WS w (.slice a n c) (nextPost ls (latches ls)[k].name)
  bad : WS w vb (badPost ls)
theorem CirAt.keeps {w w' : World} {ls : List Ln} {vi : Value} {a1 : Option Addr} {vb : Value} (h : CirAt w ls vi a1 vb) (hk : Keeps [] w w') : CirAt w' ls vi a1 vb := by
  refine ⟨h.ins.keeps hk, fun k hk' => ?_, h.bad.keeps hk⟩
  obtain ⟨b, a, n, c, h1, h2, h3, h4, h5, h6⟩ := h.lat k hk'
  exact ⟨b, a, n, c, h1, Nat.lt_of_lt_of_le h2 hk.size, hk.cell h3 (by simp), hk.cell h4 (by simp), hk.cell h5 (by simp), h6.keeps hk⟩
theorem WS.off {w w' : World} {R : Nat} {v : Value} {l : List W} (h : WS w v l) (hk : Keeps [R] w w') (hR : ∀ b, v.ownBlock = some b → b ≠ R) : WS w' v l := by
  obtain ⟨a, cap, h1, h2, h3, h4⟩ := h
  refine ⟨a, cap, h1, h2, h3, fun j hj => ?_⟩
  obtain ⟨b, o, k1, k2, k3, k4⟩ := h4 j hj
  have hs := hk.size
  exact ⟨b, o, k1, by omega, by omega, hk.cell k4 (by simp; exact hR b (by rw [h1, k1]; rfl))⟩
theorem GatFin.done {w wr w' : World} {ls : List Ln} {C M n : Nat} {a0 : Option Addr} {n0 m0 : Nat} {a1 : Option Addr} {m1 : Nat} {a2 : Option Addr} {n2 m2 i : Nat} (h : GatFin w wr ls C M n a0 n0 m0 a1 m1 a2 n2 m2 i) (hi : i = (latches ls).length) (hk : Keeps [w.heap.size] wr w') : CirAt w' ls (.slice a0 n0 m0) a1 (.slice a2 n2 m2) ∧ Keeps [] w w' := by
  have hK : Keeps [] w w' := ((h.keeps.mono (by simp)).trans hk).strike (fun i hi hlt => by simp at hi; omega)
  refine ⟨⟨(h.insr.off hk).ws, fun k hk' => ?_, h.bad.keeps hK⟩, hK⟩
  obtain ⟨b, u, e, g1, g2, g3, g4, g5, g6, g7, g8⟩ := h.lat k hk'
  obtain ⟨a, nn, c, rfl, hu⟩ := g8 (by omega)
  exact ⟨b, a, nn, c, e, Nat.lt_of_lt_of_le g2 hk.size, hk.cell g3 (by simp; omega), hk.cell g4 (by simp; omega), hk.cell g5 (by simp; omega), hu.keeps hK⟩
/-- what stands behind j lines -/
def GatInv (w wr : World) (ls : List Ln) (j : Nat) : Prop := ∃ n a0 n0 m0 a1 n1 m1 a2 n2 m2, GatAt w wr (w.heap.size + 1) (w.heap.size + 3) (ls.take j) (.slice a0 n0 m0) (.slice a1 n1 m1) (.slice a2 n2 m2) ∧ MapIs wr Tryz.prog 9 (w.heap.size + 2) n (nextG (ls.take j)) ∧ n ≤ j ∧ Blank wr w.heap.size ∧ Keeps [] w wr

theorem blank_new (w : World) : Blank (w.alloc (.cells #[.slice none 0 0, .slice none 0 0, .slice none 0 0] 52)) w.heap.size :=
  ⟨by rw [World.cell?_alloc_at _ _ _ _ rfl]; rfl, by rw [World.cell?_alloc_at _ _ _ _ rfl]; rfl, by rw [World.cell?_alloc_at _ _ _ _ rfl]; rfl, by simp, by simp, by simp, by simp⟩
theorem gat_start (w : World) (ls : List Ln) : GatInv w (((w.alloc (.cells #[.slice none 0 0, .slice none 0 0, .slice none 0 0] 52)).alloc (.cells #[.slice none 0 0, .slice none 0 0, .slice none 0 0] 52)).alloc (.map #[] 0)) ls 0 := by
  have b1 := (blank_new w).keeps (((Keeps.refl [] _).alloc (.cells #[.slice none 0 0, .slice none 0 0, .slice none 0 0] 52)).alloc (.map #[] 0)) (by simp)
  have b2 := (blank_new (w.alloc (.cells #[.slice none 0 0, .slice none 0 0, .slice none 0 0] 52))).keeps ((Keeps.refl [] _).alloc (.map #[] 0)) (by simp)
  rw [World.size_alloc] at b2
  refine ⟨0, none, 0, 0, none, 0, 0, none, 0, 0, ⟨b2.lt, by omega, b2.c0, b2.c1, b2.c2, b2.f0, b2.f1, b2.f2, World.ownsRow_nil _ _ _ _, World.ownsRow_nil _ _ _ _, ⟨none, 0, by simp [badPost], by simp [badPost], by simp, fun j hj => by simp [badPost] at hj⟩, ⟨_, _, _, rfl⟩⟩, ?_, by omega, b1, (((Keeps.refl _ _).alloc _).alloc _).alloc _⟩
  have := (MapIs.made ((w.alloc (.cells #[.slice none 0 0, .slice none 0 0, .slice none 0 0] 52)).alloc (.cells #[.slice none 0 0, .slice none 0 0, .slice none 0 0] 52)) Tryz.prog 9).congr (G' := nextG (ls.take 0)) (fun x _ _ => by simp [nextG_nil])
  simpa using this

set_option maxRecDepth 100000 in
set_option maxHeartbeats 2000000 in
theorem gather_any {w : World} {v : Value} {ls : List Ln} (hv : LV w v ls) :
    Calls Tryz.prog 31 #[v] w fun e w' => ∃ a0 n0 m0 a1 m1 a2 n2 m2, e = .returned (.agg #[.slice a0 n0 m0, .slice a1 (latches ls).length m1, .slice a2 n2 m2]) ∧ CirAt w' ls (.slice a0 n0 m0) a1 (.slice a2 n2 m2) ∧ Keeps [] w w' := by
  obtain ⟨g, cap, rfl, hcap, hg, hl, hsm, hcell⟩ := hv
  obtain ⟨i0, hi0, hz0, hz1, hz2⟩ := info_parts infoStr
  obtain ⟨i1, hi1, hy0, hy1, hy2⟩ := info_parts infoLatch
  have hmm := @run_makeMap Tryz.prog
  have hml : 2000000 < maxLen := by decide
  obtain ⟨len, hlen⟩ : ∃ len, len = ls.length := ⟨_, rfl⟩
  rw [← hlen] at hcap hl ⊢
  have HLen : Hid (len = ls.length) := hlen
  have HC : Hid (∀ i (hi : i < ls.length), ∃ a n c, w.cell? ⟨g, i * 4, none⟩ = some (.int .i64 (ls[i].kind : Int)) ∧ w.cell? ⟨g, i * 4 + 1, none⟩ = some (.string ls[i].name) ∧ w.cell? ⟨g, i * 4 + 2, none⟩ = some (.string ls[i].first) ∧ w.cell? ⟨g, i * 4 + 3, none⟩ = some (.slice a n c) ∧ WS w (.slice a n c) (lnPost ls[i])) := hcell
  have HS : Hid (∀ x ∈ ls, x.kind ≤ 4 ∧ x.name.size ≤ 1000 ∧ (lnPost x).length ≤ 5000) := hsm
  have HNL : Hid (∀ k p, (named k p).length ≤ p.length ∧ (latches p).length ≤ p.length) := fun k p => ⟨by unfold named; rw [List.length_map]; exact List.length_filter_le _ _, by unfold latches; exact List.length_filter_le _ _⟩
  clear hcell hlen hsm
  go_enter Tryz.func31, Tryz.ntmps31
  go_wp2_with fail
  obtain ⟨M, hM⟩ : ∃ M, M = w.heap.size + 1 + 1 := ⟨_, rfl⟩
  obtain ⟨C, hC⟩ : ∃ C, C = w.heap.size + 1 := ⟨_, rfl⟩
  have HM2 : Hid (M = w.heap.size + 2) := hM
  have HC2 : Hid (C = w.heap.size + 1) := hC
  have hst := gat_start w ls
  rw [← hM, ← hC] 
  clear hM hC
  go_loopw [12] (fun x wr => ∃ j : Nat, j ≤ len ∧ x = .int .i64 j ∧ GatInv w wr ls j) (fun x _ => len - (intOf x).toNat)
  case atStart =>
    exact ⟨0, by omega, rfl, hst⟩
  case round =>
    clear hst
    obtain ⟨j, hj, rfl, hinv⟩ := hrel
    obtain ⟨n, a0, n0, m0, a1, n1, m1, a2, n2, m2, hga, hm, hn, hbl, hk⟩ := hinv
    rw [← HC2.out] at hga
    rw [← HM2.out] at hm
    have hlw : M < wr.heap.size := hm.lt
    have hMw := HM2.out
    have hCw := HC2.out
    by_cases hlt : j < len
    · have hj0 : (0 : Int) ≤ (j : Int) := by omega
      have hj1 : (j : Int) < (len : Int) := by omega
      have hjl : j < ls.length := by rw [← HLen.out]; exact hlt
      obtain ⟨a, mn, mc, c0, c1, c2, c3, hws⟩ := HC.out j hjl
      have htk : ls.take (j + 1) = ls.take j ++ [ls[j]] := List.take_succ_eq_append_getElem hjl
      have hsx := HS.out ls[j] (List.getElem_mem _)
      obtain ⟨x, hx⟩ : ∃ x, x = ls[j] := ⟨_, rfl⟩
      rw [← hx] at c0 c1 c2 htk hsx hws
      have e0 := hk.cell c0 (by simp)
      have e1 := hk.cell c1 (by simp)
      have e2 := hk.cell c2 (by simp)
      have e3 := hk.cell c3 (by simp)
      have HTK : Hid (ls.take (j + 1) = ls.take j ++ [x]) := htk
      have hpl : (ls.take j).length = j := by simp; omega
      obtain ⟨p, hp⟩ : ∃ p, p = ls.take j := ⟨_, rfl⟩
      rw [← hp] at HTK hpl hga hm
      have HPL : Hid (p.length = j) := hpl
      have HM : Hid (MapIs wr Tryz.prog 9 M n (nextG p)) := hm
      have HGA : Hid (GatAt w wr C (w.heap.size + 3) p (.slice a0 n0 m0) (.slice a1 n1 m1) (.slice a2 n2 m2)) := hga
      have hln := HNL.out 1 p
      rw [hpl] at hln
      have HBL : Hid (Blank wr w.heap.size) := hbl
      have HWS : Hid (WS w (.slice a mn mc) (lnPost x)) := hws
      have hkey := keyStr hsx.2.1
      have hkd := hsx.1
      have HGo : Hid (∀ wz n' b0 o0 q0 b1 o1 q1 b2 o2 q2, GatAt w wz C (w.heap.size + 3) (p ++ [x]) (.slice b0 o0 q0) (.slice b1 o1 q1) (.slice b2 o2 q2) → MapIs wz Tryz.prog 9 M n' (nextG (p ++ [x])) → n' ≤ j + 1 → Blank wz w.heap.size → Keeps [] w wz → ∃ j2 : Nat, j2 ≤ len ∧ Value.int .i64 ((j : Int) + 1) = .int .i64 j2 ∧ GatInv w wz ls j2) := fun wz n' b0 o0 q0 b1 o1 q1 b2 o2 q2 h1 h2 h3 h4 h5 =>
        ⟨j + 1, by omega, by go_num, n', b0, o0, q0, b1, o1, q1, b2, o2, q2, by rw [HTK.out, ← HC2.out]; exact h1, by rw [HTK.out, ← HM2.out]; exact h2, h3, h4, h5⟩
      have d0 := hga.c0
      have d1 := hga.c1
      have d2 := hga.c2
      have g0 := hga.f0
      have g1 := hga.f1
      have g2 := hga.f2
      have hCr : C < wr.heap.size := by omega
      have hCn : ¬ C = wr.heap.size := by omega
      clear htk hx c0 c1 c2 c3 hsx hm hpl hp hga hbl hws hCw hMw
      by_cases k1 : x.kind = 1
      · have q1 : ((x.kind : Int) == 1) = true := by simp [k1]
        have HK : Hid (x.kind = 1) := k1
        have HG2 : Hid (∀ o o', GatAt w ((wr.alloc o).alloc o') C (w.heap.size + 3) p (.slice a0 n0 m0) (.slice a1 n1 m1) (.slice a2 n2 m2)) := fun o o' => HGA.out.keeps (((Keeps.refl [] wr).alloc o).alloc o') (by simp)
        have HHb : Hid (w.heap.size + 3 ≤ wr.heap.size) := by show _ ≤ _; have := HM2.out; omega
        clear k1
        go_wp2_with (first
          | (at_builtin; refine wpList_append_own_at _ rfl _ _ 32 rfl (w.heap.size + 3) 9 i0 (.string ByteArray.empty) 1 16 Tryz.underlying32 hi0 hz0 hz1 hz2 rfl (by decide) _ (named 1 p).length ((named 1 p).map Value.string) rfl (HG2.out _ _).ins ⟨wr.heap.size + 1, 0, none⟩ 1 1 [.string x.name] rfl rfl (cells_new1 _ _ _ _) (by simp [Value.oneCell']) (by omega) (by omega) (by have := HHb.out; simp; omega) ?_; intro v' w1 hown' hgrow hnil hloc; obtain ⟨g', cap', rfl⟩ := own_slice hown'; have HOW := hid_intro hown'; have HGC := (HG2.out _ _).cells hgrow (own_base HGA.out.ins) (by have := HHb.out; simp; omega); obtain ⟨y0, y1, y2, y3, y4, y5, y6⟩ := HGC; have HGR := hid_intro hgrow; have HKA := hid_intro (kept_app (C := C) (k := 0) (v := .slice (some ⟨g', 0, none⟩) ((named 1 p).length + 1) cap') hk (by have := HC2.out; omega) (own_base HGA.out.ins) hgrow); clear hown' hgrow hloc hnil)
          | fail)
        refine ⟨HGo.out _ n _ _ _ _ _ _ _ _ _ ((HG2.out _ _).inp HK.out (by have := HHb.out; simp; omega) HOW.out HGR.out) ?_ (by omega) ?_ ?_, by simp [intOf]; omega⟩
        · exact (HM.out.keeps HKA.out.1 (not_in (b := w.heap.size + 3) (by have := HM2.out; have := HC2.out; omega) (by have := HM2.out; omega) (own_base HGA.out.ins))).congr (fun v _ _ => nextG_skip (by have := HK.out; omega) v)
        · exact HBL.out.keeps HKA.out.1 (not_in (b := w.heap.size + 3) (by have := HC2.out; omega) (by omega) (own_base HGA.out.ins))
        · exact HKA.out.2
      · have q1 : ((x.kind : Int) == 1) = false := beq_false_of_ne (by omega)
        by_cases k2 : x.kind = 2
        · have q2 : ((x.kind : Int) == 2) = true := by simp [k2]
          have HK : Hid (x.kind = 2) := k2
          have HG2 : Hid (∀ o o', GatAt w ((wr.alloc o).alloc o') C (w.heap.size + 3) p (.slice a0 n0 m0) (.slice a1 n1 m1) (.slice a2 n2 m2)) := fun o o' => HGA.out.keeps (((Keeps.refl [] wr).alloc o).alloc o') (by simp)
          have HHb : Hid (w.heap.size + 3 ≤ wr.heap.size) := by show _ ≤ _; have := HM2.out; omega
          clear k1 k2
          go_wp2_with (first
            | (at_builtin; refine wpList_append_own_at _ rfl _ _ 49 rfl (w.heap.size + 3) 94 i1 _ 3 56 Tryz.underlying49 hi1 hy0 hy1 hy2 rfl (by decide) _ (latches p).length (latC (latches p)) rfl (HG2.out _ _).lats ⟨wr.heap.size + 1, 0, none⟩ 1 1 [.string x.name, .string x.first, .slice none 0 0] rfl rfl (cells_new1 _ _ _ _) (by simp [Value.oneCell']) (by omega) (by omega) (by have := HHb.out; simp; omega) ?_; intro v' w1 hown' hgrow hnil hloc; obtain ⟨g', cap', rfl⟩ := own_slice hown'; have HOW := hid_intro hown'; have HGC := (HG2.out _ _).cells hgrow (own_base HGA.out.lats) (by have := HHb.out; simp; omega); obtain ⟨y0, y1, y2, y3, y4, y5, y6⟩ := HGC; have HGR := hid_intro hgrow; have HKA := hid_intro (kept_app (C := C) (k := 1) (v := .slice (some ⟨g', 0, none⟩) ((latches p).length + 1) cap') hk (by have := HC2.out; omega) (own_base HGA.out.lats) hgrow); clear hown' hgrow hloc hnil)
            | fail)
          refine ⟨HGo.out _ n _ _ _ _ _ _ _ _ _ ((HG2.out _ _).lat HK.out (by have := HHb.out; simp; omega) HOW.out HGR.out) ?_ (by omega) ?_ ?_, by simp [intOf]; omega⟩
          · exact (HM.out.keeps HKA.out.1 (not_in (b := w.heap.size + 3) (by have := HM2.out; have := HC2.out; omega) (by have := HM2.out; omega) (own_base HGA.out.lats))).congr (fun v _ _ => nextG_skip (by have := HK.out; omega) v)
          · exact HBL.out.keeps HKA.out.1 (not_in (b := w.heap.size + 3) (by have := HC2.out; omega) (by omega) (own_base HGA.out.lats))
          · exact HKA.out.2
        · have q2 : ((x.kind : Int) == 2) = false := beq_false_of_ne (by omega)
          by_cases k3 : x.kind = 3
          · have q3 : ((x.kind : Int) == 3) = true := by simp [k3]
            have HK : Hid (x.kind = 3) := k3
            obtain ⟨w4, hr4, hm4, hg4⟩ := (HM.out.alloc (.cells #[.int .i64 (x.kind : Int), .string x.name, .string x.first, .slice a mn mc] 139)).update lawStr Tryz.underlying91 (by omega) hkey (.int .i64 (j : Int))
            have HM4 := hid_intro hm4
            have HG4 := hid_intro hg4
            clear k1 k2 k3 hm4 hg4
            go_wp2_with fail
            have hkm : Keeps [M] wr w4 := ((Keeps.refl _ _).alloc _).grown HG4.out (fun k e => Or.inl (by cases e; simp))
            refine ⟨HGo.out _ _ _ _ _ _ _ _ _ _ _ ((HGA.out.keeps hkm (by have := HM2.out; have := HC2.out; simp; omega)).skip (by have := HK.out; omega) (by have := HK.out; omega) (by have := HK.out; omega)) (HM4.out.congr (fun v _ _ => by rw [← HPL.out]; exact nextG_set HK.out v)) (by split <;> omega) (HBL.out.keeps hkm (by have := HM2.out; simp; omega)) (((hk.mono (by simp)).trans hkm).strike (fun i hi hlt => by have := HM2.out; simp at hi; omega)), by simp [intOf]; omega⟩
          · have q3 : ((x.kind : Int) == 3) = false := beq_false_of_ne (by omega)
            by_cases k4 : x.kind = 4
            · have q4 : ((x.kind : Int) == 4) = true := by simp [k4]
              have HK : Hid (x.kind = 4) := k4
              clear k1 k2 k3 k4
              go_wp2_with fail
              have hkm : ∀ o, Keeps [C] wr ((wr.setCell ⟨C, 2, none⟩ (.slice a mn mc)).alloc o) := fun o => ((Keeps.refl _ _).setCell _ (Or.inl (by simp)) _).alloc _
              refine ⟨HGo.out _ n _ _ _ _ _ _ _ _ _ ((HGA.out.badd HK.out HWS.out).keeps ((Keeps.refl [] _).alloc _) (by simp)) ((HM.out.keeps (hkm _) (by have := HM2.out; have := HC2.out; simp; omega)).congr (fun v _ _ => nextG_skip (by have := HK.out; omega) v)) (by omega) (HBL.out.keeps (hkm _) (by have := HC2.out; simp; omega)) (((hk.mono (by simp)).trans (hkm _)).strike (fun i hi hlt => by have := HC2.out; simp at hi; omega)), by simp [intOf]; omega⟩
            · have q4 : ((x.kind : Int) == 4) = false := beq_false_of_ne (by omega)
              have HK : Hid (¬ x.kind = 1 ∧ ¬ x.kind = 2 ∧ ¬ x.kind = 3 ∧ ¬ x.kind = 4) := ⟨k1, k2, k3, k4⟩
              clear k1 k2 k3 k4
              go_wp2_with fail
              exact ⟨HGo.out _ n _ _ _ _ _ _ _ _ _ ((HGA.out.keeps ((Keeps.refl [] wr).alloc _) (by simp)).skip HK.out.1 HK.out.2.1 HK.out.2.2.2) ((HM.out.alloc _).congr (fun v _ _ => nextG_skip HK.out.2.2.1 v)) (by omega) (HBL.out.keeps ((Keeps.refl [] wr).alloc _) (by simp)) (hk.trans ((Keeps.refl [] wr).alloc _)), by simp [intOf]; omega⟩
    · obtain rfl : j = len := by omega
      have htl : ls.take j = ls := by rw [HLen.out, List.take_length]
      rw [htl] at hga hm
      obtain ⟨a1', c1', e1⟩ := own_any hga.lats
      obtain ⟨rfl, rfl, rfl⟩ : a1 = a1' ∧ n1 = (latches ls).length ∧ m1 = c1' := by simpa using e1
      clear htl e1
      obtain ⟨nl, hnl⟩ : ∃ nl, nl = (latches ls).length := ⟨_, rfl⟩
      have HNl : Hid (nl = (latches ls).length) := hnl
      have hnl5 : nl ≤ 1001 := by have := (HNL.out 1 ls).2; have := HLen.out; omega
      have HM : Hid (MapIs wr Tryz.prog 9 M n (nextG ls)) := hm
      have HGA : Hid (GatAt w wr C (w.heap.size + 3) ls (.slice a0 n0 m0) (.slice a1 (latches ls).length m1) (.slice a2 n2 m2)) := hga
      have HBL : Hid (Blank wr w.heap.size) := hbl
      have d0 := hga.c0
      have d1 := hga.c1
      have d2 := hga.c2
      rw [← hnl] at d1
      have hlats := lat_start hga.lats hga.lt
      have hG0 : GatFin w wr ls C M n a0 n0 m0 a1 m1 a2 n2 m2 0 := ⟨hga.lt, hga.c0, hga.c1, hga.c2, hga.ins.ws, hga.ins.wsl (by omega), ins_start hga.ins hga.lats, hlats, hga.bad, hm, hbl, hk⟩
      have HG0 := hid_intro hG0
      clear hga hm hbl hnl hlats hG0
      obtain ⟨wq, hwq⟩ : ∃ wq, wq = wr := ⟨_, rfl⟩
      rw [← hwq] at HG0 HM HGA HBL d0 d1 d2 hk ⊢
      clear hwq hlw hMw hCw
      go_wp2_with fail
      go_loopw [55] (fun x wr => ∃ i : Nat, i ≤ nl ∧ x = .int .i64 i ∧ GatFin w wr ls C M n a0 n0 m0 a1 m1 a2 n2 m2 i) (fun x _ => nl - (intOf x).toNat)
      case atStart => exact ⟨0, by omega, rfl, HG0.out⟩
      case round =>
        obtain ⟨i, hi, rfl, hgf⟩ := hrel
        have HGF := hid_intro hgf
        obtain ⟨hClt, f0, f1, f2, hins, hinsr, hinsb, hlat, hbad, hmp, hbl, hkw⟩ := hgf
        rw [← HNl.out] at f1
        have hlt3 : M < wr.heap.size := hmp.lt
        have hMw := HM2.out
        have hCw := HC2.out
        have hsz := hkw.size
        by_cases hlt2 : i < nl
        · have hi0 : (0 : Int) ≤ (i : Int) := by omega
          have hi1 : (i : Int) < (nl : Int) := by omega
          have hil : i < (latches ls).length := by rw [← HNl.out]; exact hlt2
          obtain ⟨b, u, ha, hb1, hb2, z0, z1, z2, zf, zu, _⟩ := hlat i hil
          have hu := zu (Nat.le_refl _)
          rw [hu] at z2
          have hmem : (latches ls)[i] ∈ ls := (List.mem_filter.1 (List.getElem_mem hil)).1
          have hsx := HS.out _ hmem
          have hkey := keyStr hsx.2.1
          have hls0 : 0 < ls.length := List.length_pos_of_mem hmem
          have hq := lastIdx_lt (n := (latches ls)[i].name) hls0
          have hnp : nextPost ls (latches ls)[i].name = lnPost ls[(lastIdx ls (latches ls)[i].name).getD 0] := by unfold nextPost; rw [nth_eq hq]
          have hng := nextG_get ls (latches ls)[i].name
          obtain ⟨x, hx⟩ : ∃ x, x = (latches ls)[i] := ⟨_, rfl⟩
          have HX := hid_intro hx
          have HNP : Hid (nextPost ls (latches ls)[i].name = lnPost ls[(lastIdx ls (latches ls)[i].name).getD 0]) := hnp
          rw [← hx] at z0 z1 hkey hng
          have hlook : ∀ W', Keeps [] wr W' → (Instr.lookup 91 (.map (some M)) (.string x.name) false).run Tryz.prog W' = .ok (.int .i64 (((lastIdx ls x.name).getD 0 : Nat) : Int)) W' := fun W' hK => by
            rw [((hmp.keeps hK (by simp)).look lawStr Tryz.underlying91 (zeroI _) hkey).2, hng]
          obtain ⟨aq, nq, cq, _, _, _, t3, tw⟩ := HC.out _ hq
          rw [← hnp] at tw
          have t3 := hkw.cell t3 (by simp)
          have HTW := hid_intro tw
          rw [← hx] at t3 hq
          obtain ⟨q, hqq⟩ : ∃ q, q = (lastIdx ls x.name).getD 0 := ⟨_, rfl⟩
          rw [← hqq] at t3 hlook hq
          have hq0 : (0 : Int) ≤ (q : Int) := by omega
          have hq1 : (q : Int) < (j : Int) := by have := HLen.out; omega
          have hgn : ¬ g = wr.heap.size := by omega
          have hglt : g < wr.heap.size := by omega
          have hCn : ¬ C = wr.heap.size := by omega
          have hbn : ¬ b = wr.heap.size := by omega
          have HA := hid_intro ha
          subst ha
          clear hu zu hmem hsx hls0 hnp hng hx tw hqq hkey hins hinsr hinsb hlat hbad hmp hbl hMw hCw hsz
          obtain ⟨W, hW⟩ : ∃ W, W = wr.alloc (.cells #[.string x.name, .string x.first, .slice none 0 0] 94) := ⟨_, rfl⟩
          have HW := hid_intro hW
          have hkW : Keeps [] wr W := by rw [hW]; exact (Keeps.refl _ _).alloc _
          have hB0 : W.cell? ⟨wr.heap.size, 0, none⟩ = some (.string x.name) := by rw [hW]; simp
          have hfW : W.frozen? ⟨b, i * 3 + 2, none⟩ = false := (hkW.frozen (p := ⟨b, i * 3 + 2, none⟩) hb2 (by simp)).trans zf
          have hlkd := hlook W.drew hkW.drew
          have HLK := hid_intro hlkd
          clear hW hlook hlkd
          go_wp2_with fail
          rw [← HW.out]
          have s0 : W.drew.cell? ⟨C, 1, none⟩ = some (.slice (some ⟨b, 0, none⟩) nl m1) ∧ W.drew.cell? ⟨wr.heap.size, 0, none⟩ = some (.string x.name) ∧ W.drew.cell? ⟨g, q * 4 + 3, none⟩ = some (.slice aq nq cq) := ⟨hkW.drew.cell f1 (by simp), hB0, hkW.drew.cell t3 (by simp)⟩
          have hlkd := HLK.out
          have z2W : W.drew.cell? ⟨b, i * 3 + 2, none⟩ = some (.slice none 0 0) := hkW.drew.cell z2 (by simp)
          have zfW : W.drew.frozen? ⟨b, i * 3 + 2, none⟩ = false := hfW
          have s1 : (W.setCell ⟨b, i * 3 + 2, none⟩ (.slice aq nq cq)).drew.cell? ⟨C, 1, none⟩ = some (.slice (some ⟨b, 0, none⟩) nl m1) ∧ (W.setCell ⟨b, i * 3 + 2, none⟩ (.slice aq nq cq)).drew.cell? ⟨wr.heap.size, 0, none⟩ = some (.string x.name) ∧ (W.setCell ⟨b, i * 3 + 2, none⟩ (.slice aq nq cq)).drew.cell? ⟨g, q * 4 + 3, none⟩ = some (.slice aq nq cq) :=
            have hkb : Keeps [b] W.drew (W.setCell ⟨b, i * 3 + 2, none⟩ (.slice aq nq cq)).drew := ((Keeps.refl [b] W.drew).setCell ⟨b, i * 3 + 2, none⟩ (Or.inl (by simp)) (.slice aq nq cq))
            have hCb : ¬ C = b := by have := HC2.out; omega
            have hgb : ¬ g = b := by omega
            have hrb : ¬ wr.heap.size = b := by omega
            ⟨hkb.cell s0.1 (by simpa using hCb), hkb.cell s0.2.1 (by simpa using hrb), hkb.cell s0.2.2 (by simpa using hgb)⟩
          go_region_held3 (fun w' => w'.cell? ⟨C, 1, none⟩ = some (.slice (some ⟨b, 0, none⟩) nl m1) ∧ w'.cell? ⟨wr.heap.size, 0, none⟩ = some (.string x.name) ∧ w'.cell? ⟨g, q * 4 + 3, none⟩ = some (.slice aq nq cq))
            (first | exact s0 | exact s1 | assumption)
            (fail)
          go_wp2_with fail
          exact ⟨⟨i + 1, by omega, by go_num, (HGF.out.kept hkW).step hil (by have := HC2.out; omega) (by have := HM2.out; omega) HTW.out⟩, by simp [intOf]; omega⟩
        · obtain rfl : i = nl := by omega
          have r0 := hbl.c0
          have r1 := hbl.c1
          have r2 := hbl.c2
          have s0 := hbl.f0
          have s1 := hbl.f1
          have s2 := hbl.f2
          have hRC : ¬ w.heap.size = C := by omega
          have hCR : ¬ C = w.heap.size := by omega
          clear hins hinsr hinsb hlat hbad hmp hbl hMw hCw hsz
          have y0 : (wr.setCell ⟨w.heap.size, 0, none⟩ (.slice a0 n0 m0)).cell? ⟨w.heap.size, 0, none⟩ = some (.slice a0 n0 m0) := cell_set r0
          have y1 : ((wr.setCell ⟨w.heap.size, 0, none⟩ (.slice a0 n0 m0)).setCell ⟨w.heap.size, 1, none⟩ (.slice a1 i m1)).cell? ⟨w.heap.size, 1, none⟩ = some (.slice a1 i m1) := cell_set ((cell_off (by simp)).trans r1)
          have y2 : (((wr.setCell ⟨w.heap.size, 0, none⟩ (.slice a0 n0 m0)).setCell ⟨w.heap.size, 1, none⟩ (.slice a1 i m1)).setCell ⟨w.heap.size, 2, none⟩ (.slice a2 n2 m2)).cell? ⟨w.heap.size, 2, none⟩ = some (.slice a2 n2 m2) := cell_set ((cell_off (by simp)).trans ((cell_off (by simp)).trans r2))
          go_wp2_with fail
          try simp only [Exit.inBlock, Exit.then]
          refine bodyPost_ret (v := .agg #[.slice a0 n0 m0, .slice a1 i m1, .slice a2 n2 m2]) (by simp [results, Tryz.results31, go_sem, y0, y1, y2]; try rfl) rfl ?_
          exact ⟨a0, n0, m0, a1, m1, a2, n2, m2, by rw [HNl.out], HGF.out.done HNl.out ((((Keeps.refl _ _).setCell _ (Or.inl (by simp)) _).setCell _ (Or.inl (by simp)) _).setCell _ (Or.inl (by simp)) _)⟩

end Go.Proofs.YtmgjegokkbghlaaGreatDoor
