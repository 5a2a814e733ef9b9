/- Expressions whose signs stand behind what they are of, by a stack of functions: plain. -/
import Derived.Test.YtmgjegokkbghlaaGreatDoorLevels
namespace Go.Proofs.YtmgjegokkbghlaaGreatDoor
open Bdd Circ Gram
set_option linter.unusedVariables false

/-- one word: the stack's top first; none where too little lies there -/
def stepS (lev : W → Int) (st : List Fun) (x : W) : Option (List Fun) :=
  if x = zer then some ((fun _ => false) :: st)
  else if x = one then some ((fun _ => true) :: st)
  else if x = bang then (match st with
    | f :: r => some ((fun a => !f a) :: r)
    | _ => none)
  else if x = sg 2 then (match st with
    | g :: f :: r => some ((fun a => f a && g a) :: r)
    | _ => none)
  else if x = sg 1 then (match st with
    | g :: f :: r => some ((fun a => f a != g a) :: r)
    | _ => none)
  else if x = sg 0 then (match st with
    | g :: f :: r => some ((fun a => f a || g a) :: r)
    | _ => none)
  else some ((fun a => a (lev x)) :: st)
def runS (lev : W → Int) : List Fun → List W → Option (List Fun)
  | st, [] => some st
  | st, x :: r => match stepS lev st x with
    | some st' => runS lev st' r
    | none => none
def levP (P : List (W × Int)) (x : W) : Int := (pairF P x).getD 0
/-- the function of an expression -/
def fnE (lev : W → Int) (e : Ex) : Fun := fun a => e.ev (fun x => a (lev x))
theorem runS_cons {lev : W → Int} {st st' : List Fun} {x : W} {r : List W} (h : stepS lev st x = some st') : runS lev st (x :: r) = runS lev st' r := by
  simp [runS, h]
theorem stepS_name {lev : W → Int} {st : List Fun} {x : W} (h : isName x = true) : stepS lev st x = some ((fun a => a (lev x)) :: st) := by
  unfold stepS
  rw [if_neg (name_ne h nn_zer), if_neg (name_ne h nn_one), if_neg (name_ne h nn_bang), if_neg (name_ne h (nn_sg 2)), if_neg (name_ne h (nn_sg 1)), if_neg (name_ne h (nn_sg 0))]
theorem stepS_not {lev : W → Int} {st : List Fun} {f : Fun} : stepS lev (f :: st) bang = some ((fun a => !f a) :: st) := by
  unfold stepS
  rw [if_neg (by decide), if_neg (by decide), if_pos rfl]
theorem stepS_bin {lev : W → Int} {st : List Fun} {f g : Fun} {k : Nat} (hk : k < 3) : stepS lev (g :: f :: st) (sg k) = some ((fun a => op k (f a) (g a)) :: st) := by
  unfold stepS
  have : k = 0 ∨ k = 1 ∨ k = 2 := by omega
  rcases this with rfl | rfl | rfl
  · rw [if_neg (by decide), if_neg (by decide), if_neg (by decide), if_neg (by decide), if_neg (by decide), if_pos rfl]; rfl
  · rw [if_neg (by decide), if_neg (by decide), if_neg (by decide), if_neg (by decide), if_pos rfl]; rfl
  · rw [if_neg (by decide), if_neg (by decide), if_neg (by decide), if_pos rfl]; rfl
theorem runS_post (lev : W → Int) : ∀ {e : Ex}, e.wf → ∀ (st : List Fun) (r : List W), runS lev st (e.post ++ r) = runS lev (fnE lev e :: st) r
  | .lit b, _, st, r => by
    cases b
    · have : stepS lev st zer = some ((fun _ => false) :: st) := by unfold stepS; rw [if_pos rfl]
      simp only [Ex.post, Bool.false_eq_true, if_false, List.cons_append, List.nil_append]
      rw [runS_cons this]; rfl
    · have : stepS lev st one = some ((fun _ => true) :: st) := by unfold stepS; rw [if_neg (by decide), if_pos rfl]
      simp only [Ex.post, if_true, List.cons_append, List.nil_append]
      rw [runS_cons this]; rfl
  | .nm w, h, st, r => by
    simp only [Ex.post, List.cons_append, List.nil_append]
    rw [runS_cons (stepS_name h)]; rfl
  | .no e, h, st, r => by
    have h : e.wf := h
    simp only [Ex.post, List.append_assoc, List.cons_append, List.nil_append]
    rw [runS_post lev h, runS_cons stepS_not]; rfl
  | .bin k a b, h, st, r => by
    have h : k < 3 ∧ a.wf ∧ b.wf := h
    simp only [Ex.post, List.append_assoc, List.cons_append, List.nil_append]
    rw [runS_post lev h.2.1, runS_post lev h.2.2, runS_cons (stepS_bin h.1)]; rfl
theorem runS_all (lev : W → Int) {e : Ex} (h : e.wf) : runS lev [] e.post = some [fnE lev e] := by
  have := runS_post lev h [] []
  rw [List.append_nil] at this
  rw [this]; rfl

end Go.Proofs.YtmgjegokkbghlaaGreatDoor
