/- The walk of the document's Count. -/
import Derived.Test.YtmgjegokkbghlaaGreatRefText
namespace Go.Proofs.YtmgjegokkbghlaaGreat
open Go.RowKit Go.Maps Bdd
attribute [local go_sem ↓] Go.wp_at_zero Go.wp_at_succ

theorem info9 : (Tryz.prog.info? 9).map (fun i => (i.zero, i.size, i.bytes)) = some (some (.string ByteArray.empty), 1, 16) := by kernel_rfl

set_option maxRecDepth 100000 in
theorem rin_nil {w : World} (S : ByteArray) : Calls Tryz.prog 115 #[.slice none 0 0, .string S] w fun e w' => e = .returned (.bool false) ∧ w = w' := by
  go_enter Tryz.func115, Tryz.ntmps115
  go_wp2_with fail
  refine wp_loop_rounds 1 ?_
  rw [rounds_succ]
  go_wp2_with fail
  go_ret
  exact ⟨rfl, rfl⟩

/-- is it one of a list that the call has made? -/
theorem rin_own {w : World} {base m : Nat} {v : Value} {l : List ByteArray} (hl : m = l.length) (hm : m < 1000000) (hown : w.ownsRow base 9 1 v m (l.map Value.string)) (S : ByteArray) :
    Calls Tryz.prog 115 #[v, .string S] w fun e w' => (∃ b : Bool, e = .returned (.bool b) ∧ (b = true ↔ S ∈ l)) ∧ w = w' := by
  rcases hown.2 with ⟨rfl, h0⟩ | ⟨g, cap, cur, rfl, hb', hg', _⟩
  · refine (rin_nil S).mono ?_
    rintro e w' ⟨rfl, rfl⟩
    have : l = [] := List.length_eq_zero_iff.1 (by omega)
    subst this
    exact ⟨⟨false, rfl, by simp⟩, rfl⟩
  · refine rin_any hl hm (fun j hj => ?_) S
    rw [Nat.zero_add, hown.cellAt j (by omega)]
    simp [hj]

theorem once_snoc (acc : List Int) : ∀ (l : List Int) (x : Int), once acc (l ++ [x]) = if (once acc l).contains x then once acc l else once acc l ++ [x]
  | [], x => by simp [once]
  | y :: r, x => by
    rw [List.cons_append, once, once, once_snoc _ r x]
theorem once_length : ∀ (l acc : List Int), (once acc l).length ≤ acc.length + l.length
  | [], acc => by simp [once]
  | y :: r, acc => by
    rw [once]
    have := once_length r (if acc.contains y then acc else acc ++ [y])
    have h2 : (if acc.contains y then acc else acc ++ [y]).length ≤ acc.length + 1 := by split <;> simp
    simp only [List.length_cons]
    omega
theorem take_snoc {α : Type} {l : List α} {j : Nat} (h : j < l.length) : l.take (j + 1) = l.take j ++ [l[j]] := List.take_succ_eq_append_getElem h

section
variable {N : Tab} {last : Int} {n : Nat}
/-- a row of the texts of names -/
def Row (w : World) (base : Nat) (v : Value) (o : Ord n) (N : Tab) (nm : List Int) : Prop := w.ownsRow base 9 1 v nm.length ((nm.map (T N o)).map Value.string)
theorem Row.keeps {w w' : World} {base : Nat} {v : Value} {o : Ord n} {nm : List Int} {S : List Nat} (h : Row w base v o N nm) (hk : Keeps S w w') (hS : ∀ g, v.ownBlock = some g → g ∉ S) : Row w' base v o N nm := by
  refine ⟨h.1, ?_⟩
  rcases h.2 with h' | ⟨g, cap, cur, rfl, hb, hgg, rest⟩
  · exact .inl h'
  · refine .inr ⟨g, cap, cur, rfl, hb, ?_, rest⟩
    rw [hk.block g (Array.getElem?_eq_some_iff.1 hgg).1 (hS g rfl)]
    exact hgg
/-- a text is in the row just if its name is -/
theorem Row.has {w : World} {base : Nat} {v : Value} {o : Ord n} {nm : List Int} (h : Row w base v o N nm) (hw : Wf N (n : Int) last) (hok : ∀ y ∈ nm, Ok N 0 y) (hlen : nm.length < 1000000) {x : Int} (hx : Ok N 0 x) :
    Calls Tryz.prog 115 #[v, .string (T N o x)] w fun e w' => e = .returned (.bool (nm.contains x)) ∧ w = w' := by
  refine (rin_own (l := nm.map (T N o)) (by simp) hlen h (T N o x)).mono ?_
  rintro e w' ⟨⟨b, rfl, hb⟩, rfl⟩
  refine ⟨?_, rfl⟩
  congr 2
  have : T N o x ∈ nm.map (T N o) ↔ x ∈ nm := by
    constructor
    · intro hm
      obtain ⟨y, hy, e⟩ := List.mem_map.1 hm
      rw [← text_inj hw o (hok y hy) hx e]; exact hy
    · intro hm; exact List.mem_map.2 ⟨x, hm, rfl⟩
  rw [this] at hb
  cases hc : nm.contains x with
  | true => exact hb.2 (by simpa using hc)
  | false =>
    cases b with
    | false => rfl
    | true => have := hb.1 rfl; simp [this] at hc
/-- the text at a place -/
theorem Row.cell {w : World} {base : Nat} {v : Value} {o : Ord n} {nm : List Int} (h : Row w base v o N nm) {j : Nat} (hj : j < nm.length) : ∃ g cap, v = .slice (some ⟨g, 0, none⟩) nm.length cap ∧ base ≤ g ∧ g < w.heap.size ∧ w.cell? ⟨g, j, none⟩ = some (.string (T N o nm[j])) := by
  have hh := h
  rcases h.2 with ⟨_, h0⟩ | ⟨g, cap, cur, rfl, hb, hgg, rest⟩
  · omega
  · refine ⟨g, cap, rfl, hb, (Array.getElem?_eq_some_iff.1 hgg).1, ?_⟩
    rw [World.ownsRow.cellAt hh j (by omega)]
    simp [hj]
end

end Go.Proofs.YtmgjegokkbghlaaGreat
