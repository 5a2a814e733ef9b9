/- The walk of choose. -/
import Derived.Test.YtmgjegokkbghlaaGreatDoorJoin
import Derived.WalkLawsBesides
import Derived.Deep.DeepCutAuto
import Derived.Deep.DrawnRows
namespace Go.Proofs.YtmgjegokkbghlaaGreatDoor
open Go.RowKit Go.Maps Bdd

theorem part_ok {N : Tab} {top last : Int} (h : Wf N top last) {m f : Int} (hf : Ok N m f) (b : Bool) : Ok N (m + 1) (part N f m b) := by
  rcases hf with rfl | rfl | ⟨n, hn, hl⟩
  · simp [part, h.zero]; exact ok_zero _
  · simp [part, h.onee]; exact ok_one _
  · unfold part
    rw [hn]
    by_cases e : n.lv = m
    · simp only [e, if_true]
      cases b
      · have := h.lo f n hn; rw [e] at this; exact this
      · have := h.hi f n hn; rw [e] at this; exact this
    · simp only [e, if_false]
      exact Or.inr (Or.inr ⟨n, hn, by omega⟩)
theorem part_E {N : Tab} {top last : Int} (h : Wf N top last) {m f : Int} (a : Int → Bool) : E N f a = E N (part N f m (a m)) a := by
  unfold part
  cases hn : N f with
  | none => rfl
  | some n =>
    by_cases e : n.lv = m
    · simp only [e, if_true]
      rw [E_node h hn, e]
      cases a m <;> simp
    · simp only [e, if_false]
theorem lvl_ge {N : Tab} {top last : Int} (h : Wf N top last) {l f : Int} (hf : Ok N l f) (hl : l ≤ 11) : l ≤ lvl N f := by
  rcases hf with rfl | rfl | ⟨n, hn, hl'⟩
  · simp [lvl, h.zero]; omega
  · simp [lvl, h.onee]; omega
  · simp [lvl, hn]; exact hl'
theorem ok_lvl {N : Tab} {l m f : Int} (hf : Ok N l f) (hm : m ≤ lvl N f) : Ok N m f := by
  rcases hf with rfl | rfl | ⟨n, hn, hl'⟩
  · exact ok_zero _
  · exact ok_one _
  · simp [lvl, hn] at hm
    exact Or.inr (Or.inr ⟨n, hn, hm⟩)
theorem lvl_top {N : Tab} {top last : Int} (h : Wf N top last) {l f : Int} (hf : Ok N l f) (h0 : f ≠ 0) (h1 : f ≠ 1) : lvl N f < top := by
  rcases hf with rfl | rfl | ⟨n, hn, hl'⟩
  · exact absurd rfl h0
  · exact absurd rfl h1
  · simp [lvl, hn]; exact (h.lv f n hn).2
theorem lvl_fits {N : Tab} {top last : Int} (h : Wf N top last) (f : Int) : 0 ≤ lvl N f ∧ lvl N f ≤ 9223372036854775807 := by
  unfold lvl
  cases hn : N f with
  | none => simp
  | some n => have := h.lv f n hn; have := h.tops; simp; omega

/-- what the memo says -/
def DoneOk (N : Tab) (G : Value → Option Value) : Prop :=
  ∀ f g h v, G (trip f g h) = some v → ∃ r, v = .int .i64 r ∧ Ok N 0 f ∧ Ok N 0 g ∧ Ok N 0 h ∧ Ok N 0 r ∧ (∀ l, Ok N l f → Ok N l g → Ok N l h → Ok N l r) ∧ ∀ a, E N r a = if E N f a then E N g a else E N h a
theorem ok_back {N N' : Tab} {top last : Int} (h' : Wf N' top last) (hs : Sub N N') {l f : Int} (hf : Ok N 0 f) (hf' : Ok N' l f) : Ok N l f := by
  rcases hf with rfl | rfl | ⟨n, hn, _⟩
  · exact ok_zero _
  · exact ok_one _
  · rcases hf' with e | e | ⟨n', hn', hl⟩
    · have := h'.none_of (Or.inl e); rw [hs f n hn] at this; cases this
    · have := h'.none_of (Or.inr e); rw [hs f n hn] at this; cases this
    · rw [hs f n hn] at hn'; cases hn'; exact Or.inr (Or.inr ⟨n, hn, hl⟩)
theorem DoneOk.sub {N N' : Tab} {top last last' : Int} {G : Value → Option Value} (h : DoneOk N G) (hw : Wf N top last) (hw' : Wf N' top last') (hs : Sub N N') : DoneOk N' G := by
  intro f g h' v hv
  obtain ⟨r, rfl, h1, h2, h3, h4, h5, h6⟩ := h f g h' v hv
  refine ⟨r, rfl, h1.sub hs, h2.sub hs, h3.sub hs, h4.sub hs, fun l a b c => (h5 l (ok_back hw' hs h1 a) (ok_back hw' hs h2 b) (ok_back hw' hs h3 c)).sub hs, fun a => ?_⟩
  rw [E_sub hw hw' hs h1, E_sub hw hw' hs h2, E_sub hw hw' hs h3, E_sub hw hw' hs h4, h6]
theorem DoneOk.none (N : Tab) : DoneOk N (fun _ => Option.none) := by
  intro f g h v hv; cases hv

theorem zero69 (w : World) : (zeroValue 88).run Tryz.prog w = .ok (.int .i64 0) w := by kernel_rfl

set_option maxRecDepth 100000 in
set_option maxHeartbeats 400000 in
theorem choose_first {w : World} {t bd : Nat} (f g h r : Int) (hr : (f = 1 ∧ r = g) ∨ (f ≠ 1 ∧ f = 0 ∧ r = h) ∨ (f ≠ 1 ∧ f ≠ 0 ∧ g = h ∧ r = g)) :
    Calls Tryz.prog 68 #[.pointer (some ⟨t, 0, none⟩), trip f g h, .map (some bd)] w fun e w' => e = .returned (.int .i64 r) ∧ Keeps [] w w' := by
  unfold trip
  rcases hr with ⟨rfl, rfl⟩ | ⟨h1, rfl, rfl⟩ | ⟨h1, h0, rfl, rfl⟩
  · go_enter Tryz.func68, Tryz.ntmps68
    go_wp2_with fail
    go_ret
    exact ⟨rfl, (Keeps.refl _ _).alloc _⟩
  · go_enter Tryz.func68, Tryz.ntmps68
    go_wp2_with fail
    go_ret
    exact ⟨rfl, (Keeps.refl _ _).alloc _⟩
  · have e1 : (f == 1) = false := by simp [h1]
    have e0 : (f == 0) = false := by simp [h0]
    go_enter Tryz.func68, Tryz.ntmps68
    go_wp2_with fail
    go_ret
    exact ⟨rfl, (Keeps.refl _ _).alloc _⟩

set_option maxRecDepth 100000 in
set_option maxHeartbeats 400000 in
theorem choose_hit {w : World} {t bd n : Nat} {G : Value → Option Value} {f g h r : Int} (hd : MapIs w Tryz.prog 160 bd n G) (hG : G (trip f g h) = some (.int .i64 r)) (hf : Fits f) (hg : Fits g) (hh : Fits h) (h1 : f ≠ 1) (h0 : f ≠ 0) (hgh : g ≠ h) :
    Calls Tryz.prog 68 #[.pointer (some ⟨t, 0, none⟩), trip f g h, .map (some bd)] w fun e w' => e = .returned (.int .i64 r) ∧ Keeps [] w w' := by
  have e1 : (f == 1) = false := by simp [h1]
  have e0 : (f == 0) = false := by simp [h0]
  have e2 : (g == h) = false := by simp [hgh]
  obtain ⟨kl, hkey⟩ := key133 hf hg hh
  unfold trip at hkey hG ⊢
  have hrun : ∀ (o : Obj), (Instr.lookup 161 (.map (some bd)) (.agg #[.int .i64 f, .int .i64 g, .int .i64 h]) true).run Tryz.prog (w.alloc o) = .ok (.tuple #[.int .i64 r, .bool true]) (w.alloc o) := by
    intro o
    have := ((hd.alloc o).look lawChoice Tryz.underlying161 (zero69 _) hkey).1
    rw [hG] at this
    exact this
  clear hkey hG hgh h1 h0
  go_enter Tryz.func68, Tryz.ntmps68
  go_wp2_with fail
  go_ret
  exact ⟨rfl, (Keeps.refl _ _).alloc _⟩

end Go.Proofs.YtmgjegokkbghlaaGreatDoor
