/- New lists, and lists that are being written. -/
import Derived.Test.YtmgjegokkbghlaaGreatMakes
namespace Go.Proofs.YtmgjegokkbghlaaGreat
open Go.RowKit Go.Maps Bdd

theorem info4 : (Tryz.prog.info? 4).map (fun i => (i.zero, i.size, i.bytes)) = some (some (.bool false), 1, 1) := by kernel_rfl
theorem info3 : (Tryz.prog.info? 3).map (fun i => (i.zero, i.size, i.bytes)) = some (some (.int .i64 0), 1, 8) := by kernel_rfl

/-- a new list of so many zero values -/
def fillV (z : Value) (L : Nat) : Array Value := (Array.range L).map fun _ => z
theorem fillV_get (z : Value) {L k : Nat} (hk : k < L) : (fillV z L)[k]? = some z := by simp [fillV, hk]
theorem made_fill (z : Value) (hz : z.cells = #[z]) (L : Nat) : madeCells z.cells (L * 1) = fillV z L := by
  rw [hz, Nat.mul_one]
  unfold madeCells fillV
  congr 1
  funext x
  simp [Nat.mod_one]
theorem make_run {t e : TypeId} {i : TypeInfo} {z : Value} {bytes : Nat} (ht : Tryz.prog.underlying t = some (.slice e)) (hi : Tryz.prog.info? e = some i) (hz : i.zero = some z) (hs : i.size = 1) (hb : i.bytes = bytes) (hb8 : bytes ≤ 8) (hzc : z.cells = #[z]) {L : Nat} (hL : L ≤ 8) :
    ∀ w : World, (Instr.makeSlice t (.int .i64 (L : Int)) (.int .i64 (L : Int))).run Tryz.prog w = .ok (.slice (some ⟨w.heap.size, 0, none⟩) L L) (w.alloc (.cells (fillV z L) e)) := by
  intro w
  have hbb : ((i.bytes : Nat) : Int) * (L : Int) ≤ 281474976710656 := by
    have : i.bytes * L ≤ 8 * 8 := Nat.mul_le_mul (by omega) hL
    have h2 : ((i.bytes * L : Nat) : Int) ≤ 64 := by omega
    rw [Int.natCast_mul] at h2
    omega
  have := run_make (P := Tryz.prog) w t e i z ht hi hz .i64 .i64 (L : Int) (L : Int) (by omega) (by omega) hbb (by omega)
  rw [hs, Int.toNat_natCast, made_fill z hzc] at this
  exact this

/-- a new list, where the walk meets it -/
theorem wpList_make_at {w w' : World} {ops : Array Oper} {rest : List Oper} {o : Oper} {a : Act} {Q : Exit → Act → World → Prop} (hg : o.guard = none) (l c : Operand) (t : TypeId) (hop : o.op = Op.makeSlice t l c) (x y v : Value) (hl : a.eval l = x) (hc : a.eval c = y) (hrun : (Instr.makeSlice t x y).run Tryz.prog w = .ok v w')
    (h : wpList Tryz.prog ops Q rest (a.put o.dst v) w') : wpList Tryz.prog ops Q (o :: rest) a w := by
  refine wpList_plain hg fun K hK' => ?_
  subst hl hc
  unfold Oper.wp
  simp [execOp, hop, hrun, Result.andThen]
  exact hK' _ _ h

/-- a list of truth values that may be written -/
def Marks (w : World) (B L : Nat) (fr : Int → Bool) : Prop := ∀ i : Nat, i < L → w.cell? ⟨B, i, none⟩ = some (.bool (fr i)) ∧ w.frozen? ⟨B, i, none⟩ = false
theorem Marks.set {w : World} {B L : Nat} {fr fr' : Int → Bool} (h : Marks w B L fr) {k : Nat} (hfr : ∀ i : Nat, i < L → fr' i = (fr i || ((i : Int) == (k : Int)))) : Marks (w.setCell ⟨B, k, none⟩ (.bool true)) B L fr' := by
  intro i hi
  refine ⟨?_, by rw [World.frozen?_setCell]; exact (h i hi).2⟩
  rw [hfr i hi]
  by_cases e : i = k
  · subst e
    rw [World.cell?_setCell_same _ _ _ (h i hi).1]
    simp
  · rw [World.cell?_setCell_other _ _ _ _ (by first | (simp; done) | (simp; omega)), (h i hi).1]
    have : ((i : Int) == (k : Int)) = false := by simp; omega
    rw [this, Bool.or_false]


/-- a list of numbers that is being written -/
def Nums (w : World) (B L : Nat) (f : Nat → Int) : Prop := ∀ i : Nat, i < L → w.cell? ⟨B, i, none⟩ = some (.int .i64 (f i)) ∧ w.frozen? ⟨B, i, none⟩ = false
theorem Nums.set {w : World} {B L : Nat} {f f' : Nat → Int} (h : Nums w B L f) {k : Nat} (x : Int) (hx : f' k = x) (hf : ∀ i, i ≠ k → f' i = f i) : Nums (w.setCell ⟨B, k, none⟩ (.int .i64 x)) B L f' := by
  intro i hi
  refine ⟨?_, by rw [World.frozen?_setCell]; exact (h i hi).2⟩
  by_cases e : i = k
  · subst e
    rw [World.cell?_setCell_same _ _ _ (h i hi).1, hx]
  · rw [World.cell?_setCell_other _ _ _ _ (by first | (simp; done) | (simp; omega)), (h i hi).1, hf i e]
/-- a list of truth values that is being written -/
def Bools (w : World) (B L : Nat) (f : Nat → Bool) : Prop := ∀ i : Nat, i < L → w.cell? ⟨B, i, none⟩ = some (.bool (f i)) ∧ w.frozen? ⟨B, i, none⟩ = false
theorem Bools.set {w : World} {B L : Nat} {f f' : Nat → Bool} (h : Bools w B L f) {k : Nat} (x : Bool) (hx : f' k = x) (hf : ∀ i, i < L → i ≠ k → f' i = f i) : Bools (w.setCell ⟨B, k, none⟩ (.bool x)) B L f' := by
  intro i hi
  refine ⟨?_, by rw [World.frozen?_setCell]; exact (h i hi).2⟩
  by_cases e : i = k
  · subst e
    rw [World.cell?_setCell_same _ _ _ (h i hi).1, hx]
  · rw [World.cell?_setCell_other _ _ _ _ (by first | (simp; done) | (simp; omega)), (h i hi).1, hf i hi e]


end Go.Proofs.YtmgjegokkbghlaaGreat
