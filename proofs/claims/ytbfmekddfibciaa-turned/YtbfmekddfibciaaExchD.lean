/- Lemmas for the walk of Exchange. -/
import Derived.Test.YtbfmekddfibciaaExchC
namespace Go.Proofs.Ytbfmekddfibciaa
open Go.RowKit Go.Maps Bdd

section
variable {N A : Tab} {top l last lastc : Int} {D S P D' S' P' : Int → Prop}

theorem ExS.congr (h : ExS N A l last lastc D S P) (hD : ∀ f n, N f = some n → n.lv = l + 1 → (D f ↔ D' f)) (hS : ∀ f n, N f = some n → n.lv = l → ¬ Cr N l n → (S f ↔ S' f)) (hP : ∀ f n, N f = some n → n.lv = l → Cr N l n → (P f ↔ P' f)) : ExS N A l last lastc D' S' P' :=
  ⟨h.other, fun f n hn hl hd => h.low1 f n hn hl ((hD f n hn hl).2 hd), fun f n hn hl hd => h.low0 f n hn hl (fun q => hd ((hD f n hn hl).1 q)), fun f n hn hl hc hs => h.sink1 f n hn hl hc ((hS f n hn hl hc).2 hs), fun f n hn hl hc hs => h.sink0 f n hn hl hc (fun q => hs ((hS f n hn hl hc).1 q)),
    fun f n hn hl hc hp => h.cr1 f n hn hl hc ((hP f n hn hl hc).2 hp), fun f n hn hl hc hp => h.cr0 f n hn hl hc (fun q => hp ((hP f n hn hl hc).1 q)), h.new, h.rg, h.le, h.uniq⟩

/-- what is left when both levels are taken out -/
def midB (N : Tab) (l : Int) (f : Int) : Bool := (true && !atB N l f) && !atB N (l + 1) f
theorem ExS.start (hw : Wf N top last) : ExS N (keep N (midB N l)) l last last (fun _ => False) (fun _ => False) (fun _ => False) := by
  have k0 : ∀ f n, N f = some n → n.lv = l ∨ n.lv = l + 1 → keep N (midB N l) f = none := by
    intro f n hn hl
    unfold keep
    rw [if_neg]
    simp only [midB, atB, hn]
    rcases hl with e | e <;> simp [e]
  refine ⟨fun f n hn h1 h2 => ?_, fun _ _ _ _ h => h.elim, fun f n hn h1 _ => k0 f n hn (Or.inr h1), fun _ _ _ _ _ h => h.elim, fun f n hn h1 _ _ => k0 f n hn (Or.inl h1), fun _ _ _ _ _ h => h.elim, fun f n hn h1 _ _ => k0 f n hn (Or.inl h1), fun f m hm hn => ?_, fun f m hm => hw.range f m (keep_some.1 hm).2, Int.le_refl _, fun f g m hf hg => hw.uniq f g m (keep_some.1 hf).2 (keep_some.1 hg).2⟩
  · exact keep_some.2 ⟨by simp [midB, atB, hn, h1, h2], hn⟩
  · rw [(keep_some.1 hm).2] at hn; cases hn
theorem ov_start : ov (keep N (midB N l)) N = N := by
  funext f
  unfold ov keep
  split
  · rename_i m hm
    split at hm
    · exact hm.symm
    · cases hm
  · rfl
theorem ExS.total (h : ExS N A l last lastc D S P) (hD : ∀ f, D f) (hS : ∀ f, S f) (hP : ∀ f, AtLv N l f → P f) : ov A N = A := by
  funext f
  cases hA : A f with
  | some m => exact ov_some hA
  | none =>
    rw [ov_none hA]
    cases hn : N f with
    | none => rfl
    | some n =>
      exfalso
      by_cases e1 : n.lv = l
      · by_cases ec : Cr N l n
        · obtain ⟨a, b, q, _⟩ := h.cr1 f n hn e1 ec (hP f ⟨n, hn, e1⟩)
          rw [q] at hA; cases hA
        · rw [h.sink1 f n hn e1 ec (hS f)] at hA; cases hA
      · by_cases e2 : n.lv = l + 1
        · rw [h.low1 f n hn e2 (hD f)] at hA; cases hA
        · rw [h.other f n hn e1 e2] at hA; cases hA
theorem ExS.fits (_hw : Wf N top last) (hbig : lastc ≤ 4611686018427387904) (hwA : Wf A top lastc) : ∀ f m, A f = some m → Fits f ∧ Fits m.lv ∧ Fits m.lo ∧ Fits m.hi := hwA.fitsN hbig

/-- the level of a part, on the way -/
theorem lvl_ov (hw : Wf N top last) (h : ExS N A l last lastc D S P) (hD : ∀ f n, N f = some n → n.lv = l + 1 → D f) (hl1 : l < 8) {x : Int} (hx : Ok N (l + 1) x) : lvl (ov A N) x = l ↔ AtLv N (l + 1) x := by
  constructor
  · intro e
    rcases hx with rfl | rfl | ⟨n, hn, hnl⟩
    · exfalso
      have hA : A 0 = none := by
        cases hm : A 0 with
        | none => rfl
        | some m => have := (h.rg 0 m hm).1; omega
      rw [lvl, ov_none hA, hw.zero] at e
      simp only at e
      omega
    · exfalso
      have hA : A 1 = none := by
        cases hm : A 1 with
        | none => rfl
        | some m => have := (h.rg 1 m hm).1; omega
      rw [lvl, ov_none hA, hw.onee] at e
      simp only at e
      omega
    · by_cases e2 : n.lv = l + 1
      · exact ⟨n, hn, e2⟩
      · exfalso
        rw [lvl, ov_some (h.other x n hn (by omega) e2)] at e
        simp only at e
        omega
  · rintro ⟨n, hn, hl⟩
    rw [lvl, ov_some (h.low1 x n hn hl (hD x n hn hl))]
end
end Go.Proofs.Ytbfmekddfibciaa
