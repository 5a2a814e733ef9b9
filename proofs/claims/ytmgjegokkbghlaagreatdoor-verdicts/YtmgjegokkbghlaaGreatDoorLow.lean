/- Functions of the first levels alone, in a table of more; some, the least state. -/
import Derived.Test.YtmgjegokkbghlaaGreatDoorDigits
namespace Go.Proofs.YtmgjegokkbghlaaGreatDoor
open Go.RowKit Go.Maps Bdd Circ
set_option linter.unusedVariables false

/-- a function that looks at levels below L alone -/
def LowF (L : Int) (F : Fun) : Prop := ∀ a b : Int → Bool, (∀ i, i < L → a i = b i) → F a = F b
theorem low_lo {N : Tab} {top last L : Int} (h : Wf N top last) {f : Int} {n : Nd} (hn : N f = some n) (hl : LowF L (E N f)) : LowF L (E N n.lo) ∧ LowF L (E N n.hi) ∧ n.lv < L := by
  have key : ∀ (v : Bool) (a : Int → Bool), E N f (setAt a n.lv v) = if v then E N n.hi a else E N n.lo a := by
    intro v a
    rw [E_node h hn]
    have e : setAt a n.lv v n.lv = v := by simp [setAt]
    rw [e]
    cases v
    · simp only [Bool.false_eq_true, if_false]
      exact E_indep h (h.lo f n hn) _ _ (fun i hi => by unfold setAt; rw [if_neg (by omega)])
    · simp only [if_true]
      exact E_indep h (h.hi f n hn) _ _ (fun i hi => by unfold setAt; rw [if_neg (by omega)])
  have hs : ∀ (v : Bool) (a b : Int → Bool), (∀ i, i < L → a i = b i) → ∀ i, i < L → setAt a n.lv v i = setAt b n.lv v i := by
    intro v a b hab i hi
    unfold setAt
    split
    · rfl
    · exact hab i hi
  refine ⟨fun a b hab => ?_, fun a b hab => ?_, ?_⟩
  · have := hl _ _ (hs false a b hab)
    rw [key, key] at this
    simpa using this
  · have := hl _ _ (hs true a b hab)
    rw [key, key] at this
    simpa using this
  · rcases Int.lt_or_le n.lv L with hlt | hge
    · exact hlt
    · exfalso
      have hlv := h.lv f n hn
      refine h.ne f n hn (canon h (top - 0).toNat 0 n.lo n.hi (by omega) (by omega) ((h.lo f n hn).mono (by omega)) ((h.hi f n hn).mono (by omega)) (fun a => ?_))
      have := hl (setAt a n.lv false) (setAt a n.lv true) (fun i hi => by unfold setAt; rw [if_neg (by omega), if_neg (by omega)])
      rw [key, key] at this
      simpa using this
open Classical in
noncomputable def lowS (N : Tab) (L : Int) (f : Int) : Bool := decide (LowF L (E N f))
theorem low_closed {N : Tab} {top last L : Int} (h : Wf N top last) : Closed N (lowS N L) := by
  intro f n hS hn
  have hl : LowF L (E N f) := by simpa [lowS] using hS
  obtain ⟨h1, h2, _⟩ := low_lo h hn hl
  exact ⟨fun m _ => by simpa [lowS] using h1, fun m _ => by simpa [lowS] using h2⟩
theorem low_wf {N : Tab} {top last L : Int} (h : Wf N top last) (hL : L ≤ top) : Wf (keep N (lowS N L)) L last := by
  have hk := h.keep (low_closed (L := L) h)
  refine ⟨hk.range, fun f n hn => ⟨(hk.lv f n hn).1, ?_⟩, hk.lo, hk.hi, hk.ne, hk.uniq, hk.one, by have := hk.tops; omega⟩
  obtain ⟨hS, hn'⟩ := keep_some.1 hn
  exact (low_lo h hn' (by simpa [lowS] using hS)).2.2
theorem low_r {w : World} {t bn bm sz : Nat} {N : Tab} {top last L : Int} (hT : TabAt w t bn bm sz N top last) (hL : L ≤ top) {f : Int} {F : Fun} (hv : Val N f F) (hF : LowF L F) : ∃ N', TabR w t bn bm sz N' L last ∧ Val N' f F := by
  have hf : LowF L (E N f) := fun a b hab => by rw [hv.2, hv.2]; exact hF a b hab
  have hS : ∀ m, N f = some m → lowS N L f = true := fun m _ => by simpa [lowS] using hf
  refine ⟨keep N (lowS N L), ⟨low_wf hT.wf hL, N, top, last, hT, sub_keep⟩, hv.1.keep hS, fun a => ?_⟩
  rw [E_keep hT.wf (low_closed hT.wf) hv.1 hS, hv.2]

end Go.Proofs.YtmgjegokkbghlaaGreatDoor
