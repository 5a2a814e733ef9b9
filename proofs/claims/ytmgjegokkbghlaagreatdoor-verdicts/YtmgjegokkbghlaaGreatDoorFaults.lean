/- The walks that tell what is wrong with lines: claim, twice, tooMany. -/
import Derived.Test.YtmgjegokkbghlaaGreatDoorLines
import Derived.DeepKeys4
namespace Go.Proofs.YtmgjegokkbghlaaGreatDoor
open Go.RowKit Go.Maps Gram Circ
set_option linter.unusedVariables false

/-! ### lines that are read -/
def LV (w : World) (v : Value) (ls : List Ln) : Prop :=
  ∃ g cap, v = .slice (some ⟨g, 0, none⟩) ls.length cap ∧ ls.length ≤ cap ∧ g < w.heap.size ∧ ls.length ≤ 1001 ∧ (∀ x ∈ ls, x.kind ≤ 4 ∧ x.name.size ≤ 1000 ∧ (lnPost x).length ≤ 5000) ∧ ∀ i (hi : i < ls.length), ∃ a n c, w.cell? ⟨g, i * 4, none⟩ = some (.int .i64 (ls[i].kind : Int)) ∧ w.cell? ⟨g, i * 4 + 1, none⟩ = some (.string ls[i].name) ∧ w.cell? ⟨g, i * 4 + 2, none⟩ = some (.string ls[i].first) ∧ w.cell? ⟨g, i * 4 + 3, none⟩ = some (.slice a n c) ∧ WS w (.slice a n c) (lnPost ls[i])
theorem LV.keeps {w w' : World} {v : Value} {ls : List Ln} (h : LV w v ls) (hk : Keeps [] w w') : LV w' v ls := by
  obtain ⟨g, cap, h1, h2, h3, h4, h5, h6⟩ := h
  refine ⟨g, cap, h1, h2, Nat.lt_of_lt_of_le h3 hk.size, h4, h5, fun i hi => ?_⟩
  obtain ⟨a, n, c, k1, k2, k3, k4, k5⟩ := h6 i hi
  exact ⟨a, n, c, hk.cell k1 (by simp), hk.cell k2 (by simp), hk.cell k3 (by simp), hk.cell k4 (by simp), k5.keeps hk⟩

/-! ### the first place -/
theorem firstAt_some {p : Nat → Bool} {n i : Nat} (hi : i < n) (hp : p i = true) (hl : ∀ j, j < i → p j = false) : firstAt p n = some i := by
  unfold firstAt
  rw [List.find?_range_eq_some]
  exact ⟨hp, by simpa using hi, fun j hj => by simp [hl j hj]⟩
theorem firstAt_none {p : Nat → Bool} {n : Nat} (hl : ∀ j, j < n → p j = false) : firstAt p n = none := by
  unfold firstAt
  rw [List.find?_eq_none]
  intro j hj
  simp at hj
  simp [hl j hj]
/-- the number of a line that is told: 0, if there is none -/
def tells (o : Option Nat) : Nat := match o with
  | some i => i + 1
  | none => 0
theorem nth_eq {ls : List Ln} {i : Nat} (hi : i < ls.length) : nth ls i = ls[i] := by simp [nth, List.getD, hi]

/-! ### claims -/
def claimOf (x : Ln) : Nat × W := (if x.kind = 2 then 1 else x.kind, x.name)
def claimV (c : Nat × W) : Value := .agg #[.int .i64 (c.1 : Int), .string c.2]
theorem claimV_inj {c d : Nat × W} (h : claimV c = claimV d) : c = d := by
  simp [claimV] at h
  exact Prod.ext (by omega) h.2
theorem clash_claim (a b : Ln) : clash a b = (decide (claimOf a = claimOf b) && b.kind != 0) := by
  rw [Bool.eq_iff_iff]
  unfold clash claimOf decl
  simp only [Bool.and_eq_true, Bool.or_eq_true, beq_iff_eq, bne_iff_ne, decide_eq_true_eq, Prod.mk.injEq]
  by_cases hn : a.name = b.name
  · simp only [hn, and_true]
    split <;> split <;> omega
  · simp [hn]
theorem twiceAt_iff {ls : List Ln} {i : Nat} (hi : i < ls.length) : twiceAt ls i = true ↔ claimOf ls[i] ∈ (ls.take i).map claimOf ∧ ls[i].kind ≠ 0 := by
  unfold twiceAt
  rw [nth_eq hi, List.any_eq_true, List.mem_map]
  constructor
  · rintro ⟨x, hx, h⟩
    rw [clash_claim] at h
    simp only [Bool.and_eq_true, decide_eq_true_eq, bne_iff_ne] at h
    exact ⟨⟨x, hx, h.1⟩, h.2⟩
  · rintro ⟨⟨x, hx, h1⟩, h2⟩
    refine ⟨x, hx, ?_⟩
    rw [clash_claim]
    simp only [Bool.and_eq_true, decide_eq_true_eq, bne_iff_ne]
    exact ⟨h1, h2⟩

open Classical in
noncomputable def saidG (l : List (Nat × W)) (v : Value) : Option Value := if ∃ c ∈ l, v = claimV c then some (.agg #[]) else none
theorem saidG_in {l : List (Nat × W)} {c : Nat × W} (h : c ∈ l) : saidG l (claimV c) = some (.agg #[]) := by
  unfold saidG; rw [if_pos ⟨c, h, rfl⟩]
theorem saidG_out {l : List (Nat × W)} {c : Nat × W} (h : c ∉ l) : saidG l (claimV c) = none := by
  unfold saidG
  rw [if_neg]
  rintro ⟨d, hd, e⟩
  rw [claimV_inj e] at h
  exact h hd
theorem saidG_set (l : List (Nat × W)) (c : Nat × W) (v : Value) : setG (saidG l) (claimV c) (some (.agg #[])) v = saidG (l ++ [c]) v := by
  by_cases e : v = claimV c
  · subst e; rw [setG_same, saidG_in (by simp)]
  · rw [setG_other _ _ e]
    unfold saidG
    congr 1
    rw [eq_iff_iff]
    simp only [List.mem_append, List.mem_singleton]
    constructor
    · rintro ⟨d, hd, he⟩; exact ⟨d, Or.inl hd, he⟩
    · rintro ⟨d, hd | rfl, he⟩
      · exact ⟨d, hd, he⟩
      · exact absurd he e
theorem saidG_nil (v : Value) : (fun _ => none : Value → Option Value) v = saidG [] v := by simp [saidG]

theorem laidOutP : laidOutB Tryz.prog = true := by kernel_rfl
theorem rowClaim : (146 : TypeId) < Tryz.prog.types.size := of_decide_eq_true (by kernel_rfl)
theorem lawClaim : Keyed Tryz.prog 146 := Keyed.of_law (deep_law_laid laidOutP (m := 2) (by omega) rowClaim (by kernel_rfl) (by rw [Tryz.underlying146]))
theorem cellsClaim : Tryz.prog.cellsOf 146 = 2 := by kernel_rfl
theorem cellsKind : Tryz.prog.cellsOf 137 = 1 := by kernel_rfl
theorem cellsStr : Tryz.prog.cellsOf 9 = 1 := by kernel_rfl
theorem litsKind (d : Nat) {x : Int} (h : (Lit.int .i64 x).wf = true) : Tryz.prog.keyLits (d + 1) 137 [.int .i64 x] = some [.int .i64 x] := by
  unfold Program.keyLits
  simp [Tryz.underlying137, h]
theorem litsStr (d : Nat) {s : ByteArray} (h : s.size ≤ maxLen) : Tryz.prog.keyLits (d + 1) 9 [.string s] = some [.string s.data.toList] := by
  unfold Program.keyLits
  simp [Tryz.underlying9, h]
theorem keyClaim {c : Nat × W} (h1 : c.1 ≤ 4) (h2 : c.2.size ≤ 1000) : ∃ kl, keyOf Tryz.prog 146 (claimV c) = some kl := by
  have hs : c.2.size ≤ maxLen := Nat.le_trans h2 (by decide)
  have hw : (Lit.int .i64 (c.1 : Int)).wf = true := WalkArith.wf_i64 (by omega)
  have e : Tryz.prog.keyType 146 = true := by kernel_rfl
  have f : (claimV c).formed Tryz.prog 146 = true := by simp [claimV, Value.formed, Tryz.underlying146, cellsClaim]
  have g : Tryz.prog.keyLits (298 + 1 + 1) 146 (claimV c).cells.toList = some [.int .i64 (c.1 : Int), .string c.2.data.toList] := by
    rw [Program.keyLits.eq_def]
    simp [claimV, Value.cells, Tryz.underlying146, cellsClaim, cellsKind, cellsStr, litsKind 298 hw, litsStr 298 hs]
  have e2 : Tryz.prog.types.size + 1 = 298 + 1 + 1 := by kernel_rfl
  exact ⟨_, by simp only [keyOf, Tryz.underlying146, e, f, e2, g]; rfl⟩

set_option maxRecDepth 100000 in
theorem claim_any {w : World} (x : Ln) (m : Value) (hm : ∃ a n c, m = .slice a n c) :
    Calls Tryz.prog 64 #[lineV x m] w fun e w' => e = .returned (claimV (claimOf x)) ∧ Keeps [] w w' := by
  obtain ⟨a, n, c, rfl⟩ := hm
  have HC : Hid (claimOf x = (if x.kind = 2 then 1 else x.kind, x.name)) := rfl
  unfold lineV
  by_cases h : x.kind = 2
  · have q : ((x.kind : Int) == 2) = true := by simp [h]
    have HK : Hid (x.kind = 2) := h
    clear h
    go_enter Tryz.func64, Tryz.ntmps64
    go_wp2_with fail
    refine bodyPost_ret (v := .agg #[.int .i64 1, .string x.name]) (by simp [results, Tryz.results64, go_sem]) rfl ⟨?_, ((Keeps.refl _ _).alloc _).alloc _⟩
    rw [HC.out, if_pos HK.out]; rfl
  · have q : ((x.kind : Int) == 2) = false := beq_false_of_ne (by omega)
    have HK : Hid (¬ x.kind = 2) := h
    clear h
    go_enter Tryz.func64, Tryz.ntmps64
    go_wp2_with fail
    refine bodyPost_ret (v := .agg #[.int .i64 (x.kind : Int), .string x.name]) (by simp [results, Tryz.results64, go_sem]) rfl ⟨?_, ((Keeps.refl _ _).alloc _).alloc _⟩
    rw [HC.out, if_neg HK.out]; rfl

end Go.Proofs.YtmgjegokkbghlaaGreatDoor
