/- What a circuit is bad by: one of two expressions. Plain. Either, walked. The proof of what is said of Either: the row and the tied card. -/
import Derived.Test.YtmgjegokkbghlabDoorImage
import Derived.Test.YtmgjegokkbghlabDoorTexts
import Derived.Test.YtmgjegokkbghlabDoorCountsW
import Derived.Test.YtmgjegokkbghlabDoorReach
import Derived.Test.YtmgjegokkbghlabDoorCheckC
import Derived.Test.YtmgjegokkbghlabDoorTie
import Derived.Test.YtmgjegokkbghlabDoorCards
import Derived.WalkKit
import Derived.ProofKit
import Derived.OpenShut
import Derived.ShutString
import Derived.ChangeOld
import Derived.Below
import Derived.LaidMore
import Derived.Lay
import Derived.SevenTiedAt
import Derived.Stop.Joined
import Derived.HandedShaped
import Derived.SizedLaws
import Derived.Shelf.Vars
namespace Go.Proofs.YtmgjegokkbghlabDoor
open Circ Gram Runs
set_option linter.unusedVariables false

/-! ### words and lines of texts put together -/
def both2 (a b : Option (List W)) (x : W) : Option (List W) := match a, b with
  | some u, some v => some (u ++ x :: v)
  | _, _ => none
theorem wordsA_cat {c : UInt8} (h1 : an c = false) (h2 : c ≠ 32) (h3 : sign c = true) (r : List UInt8) : ∀ (x cur : List UInt8), wordsA cur (x ++ c :: r) = both2 (wordsA cur x) (wordsOf r) (mk [c])
  | [], cur => by
    rw [List.nil_append]
    have e : (c == 32) = false := by simpa using h2
    simp only [wordsA, h1, e, h3, Bool.false_eq_true, if_false, if_true]
    cases flush cur with
    | none => rfl
    | some pre => unfold wordsOf; cases wordsA [] r <;> rfl
  | y :: x, cur => by
    rw [List.cons_append]
    simp only [wordsA]
    by_cases ha : an y = true
    · simp only [ha, if_true]
      exact wordsA_cat h1 h2 h3 r x _
    · rw [if_neg ha, if_neg ha]
      cases flush cur with
      | none => rfl
      | some pre =>
        simp only []
        by_cases hb : y = 32
        · subst hb
          simp only [beq_self_eq_true, if_true]
          rw [wordsA_cat h1 h2 h3 r x []]
          cases wordsA [] x <;> cases wordsOf r <;> simp [both2]
        · have e : (y == 32) = false := by simpa using hb
          simp only [e, Bool.false_eq_true, if_false]
          cases hs : sign y with
          | false => simp [both2]
          | true =>
            simp only [if_true]
            rw [wordsA_cat h1 h2 h3 r x []]
            cases wordsA [] x <;> cases wordsOf r <;> simp [both2]
theorem words_cat {c : UInt8} (h1 : an c = false) (h2 : c ≠ 32) (h3 : sign c = true) (x r : List UInt8) : wordsOf (x ++ c :: r) = both2 (wordsOf x) (wordsOf r) (mk [c]) := wordsA_cat h1 h2 h3 r x []
theorem words_bad (x : List UInt8) : wordsOf ([98, 97, 100, 32, 61, 32] ++ x) = (wordsOf x).map fun ws => bBad :: eqs :: ws := by
  show wordsOf (98 :: 97 :: 100 :: 32 :: 61 :: 32 :: x) = _
  rw [wordsOf_word (by decide)]
  have h1 : (97 :: 100 :: 32 :: 61 :: 32 :: x).takeWhile an = [97, 100] := by
    rw [List.takeWhile_cons, if_pos (by decide), List.takeWhile_cons, if_pos (by decide), List.takeWhile_cons, if_neg (by decide)]
  have h2 : (97 :: 100 :: 32 :: 61 :: 32 :: x).dropWhile an = 32 :: 61 :: 32 :: x := by
    rw [List.dropWhile_cons, if_pos (by decide), List.dropWhile_cons, if_pos (by decide), List.dropWhile_cons, if_neg (by decide)]
  rw [h1, h2, if_pos (by decide), wordsOf_blank, wordsOf_sign (by decide) (by decide), if_pos (by decide), wordsOf_blank]
  cases wordsOf x <;> rfl
theorem words_open (x : List UInt8) : wordsOf (40 :: x) = (wordsOf x).map fun ws => opn :: ws := by
  rw [wordsOf_sign (by decide) (by decide), if_pos (by decide)]; rfl
theorem words_mid (x : List UInt8) : wordsOf (32 :: 124 :: 32 :: 40 :: x) = (wordsOf x).map fun ws => sg 0 :: opn :: ws := by
  rw [wordsOf_blank, wordsOf_sign (by decide) (by decide), if_pos (by decide), wordsOf_blank, words_open]
  cases wordsOf x <;> rfl
theorem pieces_cat : ∀ (t cur r : List UInt8), pieces cur (t ++ 10 :: r) = pieces cur t ++ pieces [] r
  | [], cur, r => by simp [pieces]
  | c :: t, cur, r => by
    rw [List.cons_append]
    simp only [pieces]
    by_cases h : c == 10
    · simp only [h, if_true, List.cons_append]
      rw [pieces_cat t [] r]
    · simp only [h]
      exact pieces_cat t _ r
theorem pieces_flat : ∀ (t cur r : List UInt8), 10 ∉ t → pieces cur (t ++ r) = pieces (cur ++ t) r
  | [], cur, r, _ => by simp
  | c :: t, cur, r, h => by
    have hc : (c == 10) = false := by
      have : c ≠ 10 := fun e => h (by simp [e])
      simpa using this
    rw [List.cons_append]
    simp only [pieces, hc, Bool.false_eq_true, if_false]
    rw [pieces_flat t _ r (fun hm => h (by simp [hm]))]
    simp
theorem cut_ten (t : List UInt8) : 10 ∉ t ∨ ∃ a b, t = a ++ 10 :: b ∧ 10 ∉ a := by
  induction t with
  | nil => exact Or.inl (by simp)
  | cons c t ih =>
    by_cases h : c = 10
    · subst h; exact Or.inr ⟨[], t, rfl, by simp⟩
    · rcases ih with ih | ⟨a, b, rfl, ha⟩
      · exact Or.inl (by simp; exact ⟨fun e => h e.symm, ih⟩)
      · exact Or.inr ⟨c :: a, b, rfl, by simp; exact ⟨fun e => h e.symm, ha⟩⟩
theorem linesOf_app : ∀ (a b : List (List UInt8)) (ls : List Ln), linesOf (a ++ b) = some ls → ∃ x y, linesOf a = some x ∧ linesOf b = some y ∧ ls = x ++ y
  | [], b, ls, h => ⟨[], ls, rfl, h, rfl⟩
  | p :: a, b, ls, h => by
    rw [List.cons_append] at h
    simp only [linesOf] at h ⊢
    cases hs : sayOf p with
    | none => rw [hs] at h; cases h
    | some z =>
      rw [hs] at h
      simp only [Option.map_eq_some_iff] at h
      obtain ⟨l', h1, rfl⟩ := h
      obtain ⟨x, y, e1, e2, rfl⟩ := linesOf_app a b l' h1
      exact ⟨z :: x, y, by simp [e1], e2, rfl⟩

/-! ### brackets -/
def dsum (l : List W) : Int := (l.map dl).sum
theorem dsum_app (a b : List W) : dsum (a ++ b) = dsum a + dsum b := by simp [dsum]
theorem g_bal {k d : Nat} {l : List W} {e : Ex} (h : G k d l e) : dsum l = 0 := by
  induction h with
  | lit d b => cases b <;> decide
  | nm d w hw => simp [dsum, dl_name hw]
  | no h ih => simpa [dsum, dl_bang] using ih
  | br h ih =>
    have e : ∀ m : List W, dsum (opn :: (m ++ [cls])) = dl opn + (dsum m + dl cls) := fun m => by simp [dsum]
    rw [e, ih, dl_opn, dl_cls]
    decide
  | up hk h ih => exact ih
  | bin hk h h' ih ih' =>
    rw [dsum_app, ih]
    have := ih'
    simp [dsum, dl_sg] at this ⊢
    exact this
theorem g_more {k d : Nat} {l : List W} {e : Ex} (h : G k d l e) : G k (d + 1) l e := by
  induction h with
  | lit d b => exact G.lit _ b
  | nm d w hw => exact G.nm _ w hw
  | no h ih => exact G.no ih
  | br h ih => exact G.br ih
  | up hk h ih => exact G.up hk ih
  | bin hk h h' ih ih' => exact G.bin hk ih ih'
theorem g_det2 {d : Nat} {ws : List W} {e f : Ex} (h : G 0 d ws e) (h' : G 0 d ws f) : e = f := by
  have h1 := chainF_complete (4 * (ws.length + 0) + (3 - 0) + 1) 0 d ws e [] h (fun x r' e => by cases e) (by simp)
  have h2 := chainF_complete (4 * (ws.length + 0) + (3 - 0) + 1) 0 d ws f [] h' (fun x r' e => by cases e) (by simp)
  rw [h1] at h2
  cases h2
  rfl
theorem g_or {d : Nat} {a b : List W} {e f : Ex} (h : G 0 d a e) (h' : G 0 d b f) : G 0 (d + 1) (opn :: (a ++ cls :: sg 0 :: opn :: (b ++ [cls]))) (.bin 0 e f) := by
  have h1 : G 0 (d + 1) (opn :: (a ++ [cls])) e := G.up (by omega) (G.up (by omega) (G.up (by omega) (G.br h)))
  have h2 : G 1 (d + 1) (opn :: (b ++ [cls])) f := G.up (by omega) (G.up (by omega) (G.br h'))
  have := G.bin (k := 0) (by omega) h1 h2
  simpa using this

/-! ### the three texts -/
def badT : List UInt8 := [10, 98, 97, 100, 32, 61, 32]
def textA (c x : List UInt8) : List UInt8 := c ++ badT ++ x
def textC2 (c x y : List UInt8) : List UInt8 := c ++ badT ++ [40] ++ x ++ [41, 32, 124, 32, 40] ++ y ++ [41]
theorem say_bad {x : List UInt8} {z : Ln} (h : sayOf ([98, 97, 100, 32, 61, 32] ++ x) = some z) : ∃ ws e, wordsOf x = some ws ∧ G 0 8 ws e ∧ z = ⟨4, emp, emp, ws, e⟩ := by
  unfold sayOf at h
  rw [words_bad] at h
  cases hw : wordsOf x with
  | none => rw [hw] at h; cases h
  | some ws =>
    rw [hw] at h
    simp only [Option.map_some] at h
    have hl : lineOf (bBad :: eqs :: ws) = (parseW ws).map fun ex => ⟨4, emp, emp, ws, ex⟩ := by
      have b1 : ¬ bBad = bIn := by decide
      have b2 : ¬ bBad = bLatch := by decide
      have b3 : ¬ bBad = bNext := by decide
      simp only [lineOf, b1, b2, b3, if_false, if_true]
    rw [hl] at h
    cases hp : parseW ws with
    | none => rw [hp] at h; cases h
    | some ex =>
      rw [hp] at h
      simp only [Option.map_some, Option.some.injEq] at h
      exact ⟨ws, ex, rfl, parseW_iff.1 hp, h.symm⟩
theorem readP_lines {t : List UInt8} {ls : List Ln} (h : readP t = .ok ls) : linesOf (pieces [] t) = some ls ∧ Good ls := by
  refine ⟨?_, good_of h⟩
  unfold readP at h
  split at h
  · cases h
  split at h
  · cases h
  rename_i ls' hl
  have : ls' = ls := by
    unfold judge at h
    repeat' split at h
    all_goals first | (cases h; done) | (cases h; rfl)
  rw [← this]; exact hl
theorem pieces_A (c x : List UInt8) : pieces [] (textA c x) = pieces [] c ++ pieces [] ([98, 97, 100, 32, 61, 32] ++ x) := by
  unfold textA badT
  rw [show c ++ [10, 98, 97, 100, 32, 61, 32] ++ x = c ++ 10 :: ([98, 97, 100, 32, 61, 32] ++ x) by simp, pieces_cat]
theorem pieces_bad (x : List UInt8) (h : 10 ∉ x) : pieces [] ([98, 97, 100, 32, 61, 32] ++ x) = [[98, 97, 100, 32, 61, 32] ++ x] := by
  have := pieces_flat ([98, 97, 100, 32, 61, 32] ++ x) [] [] (by simp [h])
  rw [List.append_nil] at this
  rw [this]
  simp [pieces]
theorem pieces_bad_cut (x y : List UInt8) (h : 10 ∉ x) : pieces [] ([98, 97, 100, 32, 61, 32] ++ (x ++ 10 :: y)) = ([98, 97, 100, 32, 61, 32] ++ x) :: pieces [] y := by
  rw [show [98, 97, 100, 32, 61, 32] ++ (x ++ 10 :: y) = ([98, 97, 100, 32, 61, 32] ++ x) ++ 10 :: y by simp, pieces_cat, pieces_bad x h]
  rfl
/-- the three circuits have all lines in common but the last -/
theorem three {c x y : List UInt8} {la lb lc : List Ln} (ha : readP (textA c x) = .ok la) (hb : readP (textA c y) = .ok lb) (hc : readP (textC2 c x y) = .ok lc) :
    ∃ (X : List Ln) (w1 w2 w3 : List W) (e1 e2 : Ex), la = X ++ [⟨4, emp, emp, w1, e1⟩] ∧ lb = X ++ [⟨4, emp, emp, w2, e2⟩] ∧ lc = X ++ [⟨4, emp, emp, w3, .bin 0 e1 e2⟩] := by
  obtain ⟨ha1, _⟩ := readP_lines ha
  obtain ⟨hb1, _⟩ := readP_lines hb
  obtain ⟨hc1, _⟩ := readP_lines hc
  rw [pieces_A] at ha1 hb1
  have eC : textC2 c x y = textA c ([40] ++ x ++ [41, 32, 124, 32, 40] ++ y ++ [41]) := by unfold textC2 textA; simp
  rw [eC, pieces_A] at hc1
  obtain ⟨X, ya, hX, hya, rfl⟩ := linesOf_app _ _ _ ha1
  obtain ⟨X', yb, hX', hyb, rfl⟩ := linesOf_app _ _ _ hb1
  obtain ⟨X'', yc, hX'', hyc, rfl⟩ := linesOf_app _ _ _ hc1
  obtain rfl := Option.some.inj (hX.symm.trans hX')
  obtain rfl := Option.some.inj (hX.symm.trans hX'')
  have one : ∀ {p : List UInt8} {q : List (List UInt8)} {r : List Ln}, linesOf (p :: q) = some r → ∃ z r', sayOf p = some z ∧ linesOf q = some r' ∧ r = z :: r' := by
    intro p q r h
    simp only [linesOf] at h
    cases hs : sayOf p with
    | none => rw [hs] at h; cases h
    | some z =>
      rw [hs] at h
      simp only [Option.map_eq_some_iff] at h
      obtain ⟨r', h1, rfl⟩ := h
      exact ⟨z, r', rfl, h1, rfl⟩
  have hx : 10 ∉ x := by
    rcases cut_ten x with h | ⟨a, b, rfl, h⟩
    · exact h
    · exfalso
      rw [pieces_bad_cut a b h] at hya
      rw [show [40] ++ (a ++ 10 :: b) ++ [41, 32, 124, 32, 40] ++ y ++ [41] = ([40] ++ a) ++ 10 :: (b ++ [41, 32, 124, 32, 40] ++ y ++ [41]) by simp, pieces_bad_cut _ _ (by simp [h])] at hyc
      obtain ⟨z, _, hz, _, _⟩ := one hya
      obtain ⟨z', _, hz', _, _⟩ := one hyc
      obtain ⟨ws, e, h1, h2, _⟩ := say_bad hz
      obtain ⟨ws', e', h3, h4, _⟩ := say_bad hz'
      rw [show [40] ++ a = 40 :: a from rfl, words_open, h1] at h3
      cases h3
      have := (g_bal h4)
      have h0 := (g_bal h2)
      rw [show dsum (opn :: ws) = dl opn + dsum ws by simp [dsum], h0, dl_opn] at this
      omega
  rw [pieces_bad x hx] at hya
  obtain ⟨za, ra, hza, hra, rfl⟩ := one hya
  cases hra
  obtain ⟨w1, e1, hw1, hg1, rfl⟩ := say_bad hza
  have hy : 10 ∉ y := by
    rcases cut_ten y with h | ⟨a, b, rfl, h⟩
    · exact h
    · exfalso
      rw [pieces_bad_cut a b h] at hyb
      rw [show [40] ++ x ++ [41, 32, 124, 32, 40] ++ (a ++ 10 :: b) ++ [41] = (40 :: (x ++ 41 :: 32 :: 124 :: 32 :: 40 :: a)) ++ 10 :: (b ++ [41]) by simp, pieces_bad_cut _ _ (by simp [h, hx])] at hyc
      obtain ⟨z, _, hz, _, _⟩ := one hyb
      obtain ⟨z', _, hz', _, _⟩ := one hyc
      obtain ⟨ws, e, h1, h2, _⟩ := say_bad hz
      obtain ⟨ws', e', h3, h4, _⟩ := say_bad hz'
      rw [words_open, words_cat (by decide) (by decide) (by decide), words_mid, h1, hw1] at h3
      simp only [Option.map_some, both2, Option.some.injEq] at h3
      subst h3
      have := (g_bal h4)
      have h0 := (g_bal h2)
      have h5 := (g_bal hg1)
      have e6 : dsum (opn :: (w1 ++ mk [41] :: sg 0 :: opn :: ws)) = dl opn + (dsum w1 + (dl (mk [41]) + (dl (sg 0) + (dl opn + dsum ws)))) := by simp [dsum]
      rw [e6, h0, h5, dl_opn, dl_sg, show dl (mk [41]) = -1 by decide] at this
      omega
  rw [pieces_bad y hy] at hyb
  obtain ⟨zb, rb, hzb, hrb, rfl⟩ := one hyb
  cases hrb
  obtain ⟨w2, e2, hw2, hg2, rfl⟩ := say_bad hzb
  rw [pieces_bad _ (by simp [hx, hy])] at hyc
  obtain ⟨zc, rc, hzc, hrc, rfl⟩ := one hyc
  cases hrc
  obtain ⟨w3, e3, hw3, hg3, rfl⟩ := say_bad hzc
  refine ⟨X, w1, w2, w3, e1, e2, rfl, rfl, ?_⟩
  have e3' : e3 = .bin 0 e1 e2 := by
    rw [show [40] ++ x ++ [41, 32, 124, 32, 40] ++ y ++ [41] = 40 :: (x ++ 41 :: (32 :: 124 :: 32 :: 40 :: (y ++ 41 :: []))) by simp, words_open, words_cat (by decide) (by decide) (by decide), words_mid, words_cat (by decide) (by decide) (by decide), hw1, hw2] at hw3
    simp only [Option.map_some, both2, wordsOf_nil, Option.some.injEq] at hw3
    subst hw3
    exact g_det2 (g_more hg3) (g_or hg1 hg2)
  rw [e3']

/-! ### the three machines -/
def sysX (X : List Ln) (e : Ex) : Runs.Sys := { sysOf X with bad := fun s i => e.ev (valuesOf X s i) }
theorem named_four (k : Nat) (hk : k ≠ 4) (X : List Ln) (w : List W) (e : Ex) : named k (X ++ [⟨4, emp, emp, w, e⟩]) = named k X := by
  unfold named
  have h : ((4 : Nat) == k) = false := by simpa using fun h => hk h.symm
  rw [List.filter_append]
  simp [h]
theorem latches_four (X : List Ln) (w : List W) (e : Ex) : latches (X ++ [⟨4, emp, emp, w, e⟩]) = latches X := by
  unfold latches
  rw [List.filter_append]
  simp
theorem next_four (X : List Ln) (w : List W) (e : Ex) (n : W) : nextOf (X ++ [⟨4, emp, emp, w, e⟩]) n = nextOf X n := by
  unfold nextOf
  rw [List.find?_append]
  cases X.find? fun x => x.kind == 3 && decide (x.name = n) <;> rfl
theorem bad_four {X : List Ln} {w : List W} {e : Ex} (h : Good (X ++ [⟨4, emp, emp, w, e⟩])) : badOf (X ++ [⟨4, emp, emp, w, e⟩]) = e := by
  unfold badOf
  rw [List.find?_append]
  have hn : X.find? (fun x => x.kind == 4) = none := by
    rw [List.find?_eq_none]
    intro x hx hk
    have hk : x.kind = 4 := by simpa using hk
    have hi : X.length < (X ++ [(⟨4, emp, emp, w, e⟩ : Ln)]).length := by simp
    have hne : ¬ twiceAt (X ++ [⟨4, emp, emp, w, e⟩]) X.length = true := by simp [h.twice X.length hi]
    rw [twiceAt_iff hi] at hne
    refine hne ⟨?_, by simp⟩
    rw [List.take_left, show (X ++ [⟨4, emp, emp, w, e⟩])[X.length] = (⟨4, emp, emp, w, e⟩ : Ln) by simp]
    refine List.mem_map.2 ⟨x, hx, ?_⟩
    have hnm := (h.ok x (List.mem_append_left _ hx)).bad hk
    unfold claimOf
    simp [hk, hnm]
  rw [hn]
  rfl
theorem values_four (X : List Ln) (w : List W) (e : Ex) : valuesOf (X ++ [⟨4, emp, emp, w, e⟩]) = valuesOf X := by
  funext s i x
  unfold valuesOf inputs
  rw [named_four 2 (by omega), named_four 1 (by omega)]
theorem sys_four {X : List Ln} {w : List W} {e : Ex} (h : Good (X ++ [⟨4, emp, emp, w, e⟩])) : sysOf (X ++ [⟨4, emp, emp, w, e⟩]) = sysX X e := by
  have hb := bad_four h
  have hv := values_four X w e
  have hn : nextOf (X ++ [⟨4, emp, emp, w, e⟩]) = nextOf X := funext (next_four X w e)
  unfold sysX sysOf inputs
  rw [hb, hv, hn, latches_four, named_four 2 (by omega), named_four 1 (by omega)]
theorem lv_same (X : List Ln) (e f : Ex) : ∀ k, lv (sysX X e) k = lv (sysX X f) k
  | 0 => rfl
  | k + 1 => by
    simp only [lv, lv_same X e f k]
    rfl
theorem badAt_or (X : List Ln) (e f : Ex) (k : Nat) : BadAt (sysX X (.bin 0 e f)) k ↔ BadAt (sysX X e) k ∨ BadAt (sysX X f) k := by
  have h1 : ∀ g s, lev (sysX X g) k s ↔ lev (sysX X e) k s := fun g s => by unfold lev; rw [lv_same X g e k]
  have hb : ∀ s i, (sysX X (.bin 0 e f)).bad s i = ((sysX X e).bad s i || (sysX X f).bad s i) := fun s i => rfl
  constructor
  · rintro ⟨s, i, hs, hi, h⟩
    rw [hb, Bool.or_eq_true] at h
    rcases h with h | h
    · exact Or.inl ⟨s, i, (h1 _ s).1 hs, hi, h⟩
    · exact Or.inr ⟨s, i, (h1 f s).2 ((h1 _ s).1 hs), hi, h⟩
  · rintro (⟨s, i, hs, hi, h⟩ | ⟨s, i, hs, hi, h⟩)
    · exact ⟨s, i, (h1 _ s).2 hs, hi, by rw [hb, h]; rfl⟩
    · exact ⟨s, i, (h1 _ s).2 ((h1 f s).1 hs), hi, by rw [hb, h]; simp⟩
open Classical in
theorem many_same (X : List Ln) (e f : Ex) : Runs.howMany (sysX X e) = Runs.howMany (sysX X f) := by
  unfold Runs.howMany
  refine List.countP_congr (fun s hs => ?_)
  have : Rd (sysX X e) s ↔ Rd (sysX X f) s := by
    unfold Rd lev
    simp only [lv_same X e f]
  rw [decide_eq_true_iff, decide_eq_true_iff, this]
open Classical in
theorem many_pos {ls : List Ln} (h : Good ls) : 1 ≤ Runs.howMany (sysOf ls) := by
  have hL := h.nL
  have eL : (named 2 ls).length = (latches ls).length := by rw [named2, List.length_map]
  obtain ⟨bs, hbs⟩ : ∃ bs : List Bool, bs = (latches ls).map fun x => decide (x.first = one) := ⟨_, rfl⟩
  have hlb : bs.length = (latches ls).length := by rw [hbs, List.length_map]
  have hlt : numOf bs < (sysOf ls).S := by rw [sys_S, ← hlb]; exact numOf_lt bs
  have hf : (sysOf ls).first (numOf bs) = true := by
    show ((List.range (named 2 ls).length).all fun j => mayFirst ((latches ls).getD j ⟨0, emp, emp, [], .lit false⟩).first (dig (named 2 ls).length (numOf bs) j)) = true
    rw [List.all_eq_true]
    intro j hj
    have hj : j < (latches ls).length := by rw [← eL]; simpa using hj
    have hd : dig (latches ls).length (numOf bs) j = bs[j]'(by omega) := Eq.trans (congrArg (fun n => dig n (numOf bs) j) hlb.symm) (dig_num bs (by omega) j (by omega))
    rw [eL, hd, List.getD_eq_getElem?_getD, List.getElem?_eq_getElem hj]
    have e : bs[j]'(by omega) = decide ((latches ls)[j].first = one) := by simp [hbs]
    rw [e]
    simp only [Option.getD_some]
    unfold mayFirst
    split
    · rename_i hz; rw [hz]; decide
    · split
      · rename_i ho; simp [ho]
      · rfl
  unfold Runs.howMany
  rw [Nat.succ_le_iff, List.countP_pos_iff]
  exact ⟨numOf bs, by simpa using hlt, by simpa using Rd_first hlt hf⟩
/-- WHAT THE THREE HAVE TO DO WITH EACH OTHER -/
theorem three_sys {c x y : List UInt8} {la lb lc : List Ln} (ha : readP (textA c x) = .ok la) (hb : readP (textA c y) = .ok lb) (hc : readP (textC2 c x y) = .ok lc) :
    (∀ k, BadAt (sysOf lc) k ↔ BadAt (sysOf la) k ∨ BadAt (sysOf lb) k) ∧ Runs.howMany (sysOf la) = Runs.howMany (sysOf lc) ∧ Runs.howMany (sysOf lb) = Runs.howMany (sysOf lc) ∧ 1 ≤ Runs.howMany (sysOf lc) := by
  obtain ⟨X, w1, w2, w3, e1, e2, rfl, rfl, rfl⟩ := three ha hb hc
  have ga := good_of ha
  have gb := good_of hb
  have gc := good_of hc
  refine ⟨fun k => ?_, ?_, ?_, many_pos gc⟩
  · rw [sys_four ga, sys_four gb, sys_four gc]; exact badAt_or X e1 e2 k
  · rw [sys_four ga, sys_four gc]; exact many_same X _ _
  · rw [sys_four gb, sys_four gc]; exact many_same X _ _

end Go.Proofs.YtmgjegokkbghlabDoor

namespace Go.Proofs.YtmgjegokkbghlabDoor
open Go.RowKit Go.Maps Circ Gram Runs
set_option linter.unusedVariables false

theorem bl_cat (a b : ByteArray) : bl (a ++ b) = bl a ++ bl b := by
  show (a ++ b).data.toList = _
  rw [ByteArray.data_append, Array.toList_append]
  rfl
/-- what Check answers, as Either looks at it -/
def EithIs (t : List UInt8) (e : Ending) : Prop := ∃ (b : Bool) (x : Int) (a1 : Option Addr) (n1 c1 : Nat) (a2 : Option Addr) (len c2 k line : Nat), e = .returned (.tuple #[.agg #[.bool b, .int .i64 x, .slice a1 n1 c1, .slice a2 len c2], .int .i64 (k : Int), .int .i64 (line : Int)]) ∧
  (k ≠ 0 ∨ (k = 0 ∧ line = 0 ∧ ∃ ls, readP t = .ok ls ∧ ((b = true ∧ x = (Runs.howMany (sysOf ls) : Int) ∧ (∀ j, ¬ BadAt (sysOf ls) j)) ∨ (b = false ∧ x = 0 ∧ 1 ≤ len ∧ len ≤ 16 ∧ BadAt (sysOf ls) (len - 1) ∧ ∀ j, j + 1 < len → ¬ BadAt (sysOf ls) j))))
theorem eith_check {w : World} (hG : Glob w) (s : ByteArray) : Calls Tryd.prog 7 #[.string s] w fun e w' => EithIs (bl s) e ∧ Keeps [] w w' := by
  refine (check_any hG s).mono ?_
  rintro e w' ⟨h, hk⟩
  refine ⟨?_, hk⟩
  unfold CheckIs at h
  cases hp : readP (bl s) with
  | err k line =>
    rw [hp] at h
    exact ⟨_, _, _, _, _, _, _, _, k, line, h, Or.inl (err_pos hp)⟩
  | ok ls =>
    rw [hp] at h
    obtain ⟨v, rfl, hv⟩ := h
    rcases hv with ⟨rfl, hs⟩ | ⟨k, s0, is, S, V, bk, ht, hk15, rfl, _⟩
    · exact ⟨_, _, _, _, _, _, _, _, 0, 0, rfl, Or.inr ⟨rfl, rfl, ls, hp, Or.inl ⟨rfl, rfl, hs⟩⟩⟩
    · exact ⟨_, _, _, _, _, _, _, _, 0, 0, rfl, Or.inr ⟨rfl, rfl, ls, hp, Or.inr ⟨rfl, rfl, by omega, by omega, ht.bad, fun j hj => ht.least j (by omega)⟩⟩⟩
theorem checkL2 (w : World) (s : ByteArray) (hG : Glob w) : Calls Tryd.prog 7 #[.string s] w fun e w' => CheckL (bl s) e ∧ Keeps [] w w' := by
  refine (check_any hG s).mono ?_
  rintro e w' ⟨h, hk⟩
  refine ⟨?_, hk⟩
  unfold CheckIs at h
  unfold CheckL
  revert h
  cases readP (bl s) with
  | err k line => exact fun h => h
  | ok ls =>
    rintro ⟨v, rfl, hv⟩ hs
    rcases hv with ⟨rfl, _⟩ | ⟨k, s0, is, A, V, bk, ht, _⟩
    · rfl
    · exact absurd ht.bad (hs k)
/-- the three answers held against each other -/
def Fit3 (b1 b2 b3 : Bool) (x1 x2 x3 : Int) (l1 l2 l3 : Nat) : Prop :=
  (b1 = true ∧ b2 = true ∧ b3 = true ∧ x3 = x1 ∧ x1 = x2 ∧ 1 ≤ x3) ∨ (b3 = false ∧ x3 = 0 ∧ 1 ≤ l3 ∧ l3 ≤ 16 ∧ ((b1 = true ∧ b2 = false ∧ l3 = l2) ∨ (b1 = false ∧ b2 = true ∧ l3 = l1) ∨ (b1 = false ∧ b2 = false ∧ l1 < l2 ∧ l3 = l1) ∨ (b1 = false ∧ b2 = false ∧ ¬ l1 < l2 ∧ l3 = l2)))
theorem fit3 {c x y : List UInt8} {la lb lc : List Ln} (ha : readP (textA c x) = .ok la) (hb : readP (textA c y) = .ok lb) (hc : readP (textC2 c x y) = .ok lc) {b1 b2 b3 : Bool} {x1 x2 x3 : Int} {l1 l2 l3 : Nat}
    (h1 : (b1 = true ∧ x1 = (Runs.howMany (sysOf la) : Int) ∧ (∀ j, ¬ BadAt (sysOf la) j)) ∨ (b1 = false ∧ x1 = 0 ∧ 1 ≤ l1 ∧ l1 ≤ 16 ∧ BadAt (sysOf la) (l1 - 1) ∧ ∀ j, j + 1 < l1 → ¬ BadAt (sysOf la) j))
    (h2 : (b2 = true ∧ x2 = (Runs.howMany (sysOf lb) : Int) ∧ (∀ j, ¬ BadAt (sysOf lb) j)) ∨ (b2 = false ∧ x2 = 0 ∧ 1 ≤ l2 ∧ l2 ≤ 16 ∧ BadAt (sysOf lb) (l2 - 1) ∧ ∀ j, j + 1 < l2 → ¬ BadAt (sysOf lb) j))
    (h3 : (b3 = true ∧ x3 = (Runs.howMany (sysOf lc) : Int) ∧ (∀ j, ¬ BadAt (sysOf lc) j)) ∨ (b3 = false ∧ x3 = 0 ∧ 1 ≤ l3 ∧ l3 ≤ 16 ∧ BadAt (sysOf lc) (l3 - 1) ∧ ∀ j, j + 1 < l3 → ¬ BadAt (sysOf lc) j)) : Fit3 b1 b2 b3 x1 x2 x3 l1 l2 l3 := by
  obtain ⟨hor, hm1, hm2, hpos⟩ := three_sys ha hb hc
  have hle : ∀ {j : Nat}, BadAt (sysOf lc) j → b3 = false ∧ x3 = 0 ∧ 1 ≤ l3 ∧ l3 ≤ 16 ∧ l3 ≤ j + 1 ∧ BadAt (sysOf lc) (l3 - 1) := fun {j} hj => by
    rcases h3 with ⟨_, _, hs⟩ | ⟨e1, e2, e3, e4, e5, e6⟩
    · exact absurd hj (hs j)
    · refine ⟨e1, e2, e3, e4, ?_, e5⟩
      rcases Nat.lt_or_ge (j + 1) l3 with h | h
      · exact absurd hj (e6 j h)
      · exact h
  rcases h1 with ⟨rfl, rfl, s1⟩ | ⟨rfl, rfl, p1, q1, t1, u1⟩
  · rcases h2 with ⟨rfl, rfl, s2⟩ | ⟨rfl, rfl, p2, q2, t2, u2⟩
    · rcases h3 with ⟨rfl, rfl, _⟩ | ⟨_, _, _, _, e5, _⟩
      · exact Or.inl ⟨rfl, rfl, rfl, by rw [hm1], by rw [hm1, hm2], by omega⟩
      · rcases (hor _).1 e5 with h | h
        · exact absurd h (s1 _)
        · exact absurd h (s2 _)
    · obtain ⟨e1, e2, e3, e4, e5, e6⟩ := hle ((hor _).2 (Or.inr t2))
      refine Or.inr ⟨e1, e2, e3, e4, Or.inl ⟨rfl, rfl, ?_⟩⟩
      rcases (hor _).1 e6 with h | h
      · exact absurd h (s1 _)
      · rcases Nat.lt_or_ge l3 l2 with hlt | hge
        · exact absurd h (u2 _ (by omega))
        · omega
  · rcases h2 with ⟨rfl, rfl, s2⟩ | ⟨rfl, rfl, p2, q2, t2, u2⟩
    · obtain ⟨e1, e2, e3, e4, e5, e6⟩ := hle ((hor _).2 (Or.inl t1))
      refine Or.inr ⟨e1, e2, e3, e4, Or.inr (Or.inl ⟨rfl, rfl, ?_⟩)⟩
      rcases (hor _).1 e6 with h | h
      · rcases Nat.lt_or_ge l3 l1 with hlt | hge
        · exact absurd h (u1 _ (by omega))
        · omega
      · exact absurd h (s2 _)
    · obtain ⟨e1, e2, e3, e4, e5, e6⟩ := hle ((hor _).2 (Or.inl t1))
      obtain ⟨_, _, _, _, e7, _⟩ := hle ((hor _).2 (Or.inr t2))
      have hge : l1 ≤ l3 ∨ l2 ≤ l3 := by
        rcases (hor _).1 e6 with h | h
        · rcases Nat.lt_or_ge l3 l1 with hlt | hge
          · exact absurd h (u1 _ (by omega))
          · exact Or.inl hge
        · rcases Nat.lt_or_ge l3 l2 with hlt | hge
          · exact absurd h (u2 _ (by omega))
          · exact Or.inr hge
      by_cases hlt : l1 < l2
      · exact Or.inr ⟨e1, e2, e3, e4, Or.inr (Or.inr (Or.inl ⟨rfl, rfl, hlt, by omega⟩))⟩
      · exact Or.inr ⟨e1, e2, e3, e4, Or.inr (Or.inr (Or.inr ⟨rfl, rfl, hlt, by omega⟩))⟩

/-- an answer laid in a block -/
structure Laid (w : World) (D : Nat) (b : Bool) (x : Int) (p : Option Addr) (m c : Nat) (q : Option Addr) (l d : Nat) : Prop where
  d0 : w.cell? ⟨D, 0, none⟩ = some (.bool b)
  d1 : w.cell? ⟨D, 1, none⟩ = some (.int .i64 x)
  d2 : w.cell? ⟨D, 2, none⟩ = some (.slice p m c)
  d3 : w.cell? ⟨D, 3, none⟩ = some (.slice q l d)
theorem Laid.keeps {w w' : World} {D : Nat} {b : Bool} {x : Int} {p : Option Addr} {m c : Nat} {q : Option Addr} {l d : Nat} (h : Laid w D b x p m c q l d) (hk : Keeps [] w w') : Laid w' D b x p m c q l d :=
  ⟨hk.cell h.d0 (by simp), hk.cell h.d1 (by simp), hk.cell h.d2 (by simp), hk.cell h.d3 (by simp)⟩
theorem Laid.new (w : World) (b : Bool) (x : Int) (p : Option Addr) (m c : Nat) (q : Option Addr) (l d : Nat) : Laid (w.alloc (.cells #[.bool b, .int .i64 x, .slice p m c, .slice q l d] 26)) w.heap.size b x p m c q l d := by
  refine ⟨?_, ?_, ?_, ?_⟩ <;> (rw [World.cell?_alloc_at _ _ _ _ rfl]; rfl)

set_option maxRecDepth 100000 in
set_option maxHeartbeats 4000000 in
theorem either_walk {w : World} (hG : Glob w) {c x y : ByteArray} (hc : c.size ≤ 1000000000000000) (hx : x.size ≤ 1000000000000000) (hy : y.size ≤ 1000000000000000) :
    Calls Tryd.prog 5 #[.string c, .string x, .string y] w fun e w' => e = .returned (.bool true) ∧ Keeps [] w w' := by
  have HE := hid_intro (fun (w : World) (hG : Glob w) s => eith_check hG s)
  have HC1 := hid_intro (counts_walk hG (latches := 1) (more := 0) (way := 0) (by unfold FitsI; omega) (by unfold FitsI; omega) (by unfold FitsI; omega))
  have HC2 : Hid (∀ w : World, Glob w → Calls Tryd.prog 4 #[.int .i64 1, .int .i64 0, .int .i64 2] w fun e w' => e = .returned (.bool true) ∧ Keeps [] w w') := fun w hG => reached_walk checkL2 hG (by unfold FitsI; omega) (by unfold FitsI; omega) (by unfold FitsI; omega)
  obtain ⟨S0, hS0⟩ : ∃ S0, ByteArray.size c = S0 := ⟨_, rfl⟩
  obtain ⟨S1, hS1⟩ : ∃ S1, ByteArray.size x = S1 := ⟨_, rfl⟩
  obtain ⟨S2, hS2⟩ : ∃ S2, ByteArray.size y = S2 := ⟨_, rfl⟩
  have o1 : ¬ 9223372036854775807 < S0 + 7 := by omega
  have o2 : ¬ 9223372036854775807 < S0 + 7 + S1 := by omega
  have o3 : ¬ 9223372036854775807 < S0 + 7 + S2 := by omega
  have o4 : ¬ 9223372036854775807 < S0 + 8 := by omega
  have o5 : ¬ 9223372036854775807 < S0 + 8 + S1 := by omega
  have o6 : ¬ 9223372036854775807 < S0 + 8 + S1 + 5 := by omega
  have o7 : ¬ 9223372036854775807 < S0 + 8 + S1 + 5 + S2 := by omega
  have o8 : ¬ 9223372036854775807 < S0 + 8 + S1 + 5 + S2 + 1 := by omega
  clear hc hx hy
  go_enter Tryd.func5, Tryd.ntmps5
  go_wp2_with fail
  refine Calls.mono HC1.out ?_
  rintro e w1 ⟨rfl, hk1⟩
  go_wp2_with fail
  refine Calls.mono (HC2.out _ (hG.keeps hk1)) ?_
  rintro e w2 ⟨rfl, hk2⟩
  have hkw2 : Keeps [] w w2 := hk1.trans hk2
  clear HC1 HC2
  go_wp2_with fail
  refine Calls.mono (HE.out w2 (hG.keeps hkw2) _) ?_
  rintro e w3 ⟨⟨b1, x1, p1, m1, c1, q1, l1, d1, k1, n1, rfl, hf1⟩, hk3⟩
  have hkw3 : Keeps [] w (w3.alloc (.cells #[.bool b1, .int .i64 x1, .slice p1 m1 c1, .slice q1 l1 d1] 26)) := (hkw2.trans hk3).alloc _
  have HA1 := hid_intro (Laid.new w3 b1 x1 p1 m1 c1 q1 l1 d1)
  have HF1 := hid_intro hf1
  clear hf1
  go_wp2_with fail
  refine Calls.mono (HE.out _ (hG.keeps hkw3) _) ?_
  rintro e w4 ⟨⟨b2, x2, p2, m2, c2, q2, l2, d2, k2, n2, rfl, hf2⟩, hk4⟩
  have hkw4 : Keeps [] w (w4.alloc (.cells #[.bool b2, .int .i64 x2, .slice p2 m2 c2, .slice q2 l2 d2] 26)) := (hkw3.trans hk4).alloc _
  have HA2 := hid_intro (Laid.new w4 b2 x2 p2 m2 c2 q2 l2 d2)
  have HF2 := hid_intro hf2
  clear hf2
  go_wp2_with fail
  refine Calls.mono (HE.out _ (hG.keeps hkw4) _) ?_
  rintro e w5 ⟨⟨b3, x3, p3, m3, c3, q3, l3, d3, k3, n3, rfl, hf3⟩, hk5⟩
  have hkw5 : Keeps [] w (w5.alloc (.cells #[.bool b3, .int .i64 x3, .slice p3 m3 c3, .slice q3 l3 d3] 26)) := (hkw4.trans hk5).alloc _
  have HA3 := hid_intro (Laid.new w5 b3 x3 p3 m3 c3 q3 l3 d3)
  have hA1 := (HA1.out.keeps (hk4.alloc (.cells #[.bool b2, .int .i64 x2, .slice p2 m2 c2, .slice q2 l2 d2] 26))).keeps (hk5.alloc (.cells #[.bool b3, .int .i64 x3, .slice p3 m3 c3, .slice q3 l3 d3] 26))
  have hA2 := HA2.out.keeps (hk5.alloc (.cells #[.bool b3, .int .i64 x3, .slice p3 m3 c3, .slice q3 l3 d3] 26))
  have hA3 := HA3.out
  have HF3 := hid_intro hf3
  clear hf3 HA1 HA2 HA3 HE
  by_cases z1 : k1 = 0
  · by_cases z2 : k2 = 0
    · by_cases z3 : k3 = 0
      · have hfit : Fit3 b1 b2 b3 x1 x2 x3 l1 l2 l3 ∧ n3 = 0 := by
          obtain ⟨_, _, la, ha, ga⟩ := HF1.out.resolve_left (fun h => h z1)
          obtain ⟨_, _, lb, hb, gb⟩ := HF2.out.resolve_left (fun h => h z2)
          obtain ⟨_, hn3, lc, hc, gc⟩ := HF3.out.resolve_left (fun h => h z3)
          rw [bl_cat, bl_cat] at ha hb
          rw [bl_cat, bl_cat, bl_cat, bl_cat, bl_cat] at hc
          refine ⟨fit3 (c := bl c) (x := bl x) (y := bl y) ha hb ?_ ga gb gc, hn3⟩
          have e : textC2 (bl c) (bl x) (bl y) = bl c ++ bl (⟨#[10, 98, 97, 100, 32, 61, 32, 40]⟩ : ByteArray) ++ bl x ++ bl (⟨#[41, 32, 124, 32, 40]⟩ : ByteArray) ++ bl y ++ bl (⟨#[41]⟩ : ByteArray) := by
            show _ = bl c ++ [10, 98, 97, 100, 32, 61, 32, 40] ++ bl x ++ [41, 32, 124, 32, 40] ++ bl y ++ [41]
            unfold textC2 badT
            simp
          rw [e]
          exact hc
        obtain ⟨hfit, hn3⟩ := hfit
        subst z1
        subst z2
        subst z3
        subst hn3
        clear HF1 HF2 HF3
        obtain ⟨u0, u1, u2, u3⟩ := hA1
        obtain ⟨v0, v1, v2, v3⟩ := hA2
        obtain ⟨t0, t1, t2, t3⟩ := hA3
        rcases hfit with ⟨rfl, rfl, rfl, rfl, rfl, hpos⟩ | ⟨rfl, rfl, hl1, hl16, hh⟩
        · go_wp2_with fail
          go_ret
          exact ⟨rfl, hkw5⟩
        · have hl1' : (1 : Int) ≤ (l3 : Int) := by omega
          rcases hh with ⟨rfl, rfl, rfl⟩ | ⟨rfl, rfl, rfl⟩ | ⟨rfl, rfl, hlt, rfl⟩ | ⟨rfl, rfl, hlt, rfl⟩
          · go_wp2_with fail
            go_ret
            exact ⟨rfl, hkw5⟩
          · go_wp2_with fail
            go_ret
            exact ⟨rfl, hkw5⟩
          · have hlt' : (l3 : Int) < (l2 : Int) := by omega
            go_wp2_with fail
            go_ret
            exact ⟨rfl, hkw5⟩
          · have hlt' : ¬ (l1 : Int) < (l3 : Int) := by omega
            go_wp2_with fail
            go_ret
            exact ⟨rfl, hkw5⟩
      · have z : ¬ (k3 : Int) = 0 := by omega
        have zb : ((k3 : Int) == 0) = false := by simpa using z
        subst z1
        subst z2
        clear HF1 HF2 HF3 z3
        go_wp2_with fail
        go_ret
        exact ⟨rfl, hkw5⟩
    · have z : ¬ (k2 : Int) = 0 := by omega
      have zb : ((k2 : Int) == 0) = false := by simpa using z
      subst z1
      clear HF1 HF2 HF3 z2
      go_wp2_with fail
      go_ret
      exact ⟨rfl, hkw5⟩
  · have z : ¬ (k1 : Int) = 0 := by omega
    have zb : ((k1 : Int) == 0) = false := by simpa using z
    clear HF1 HF2 HF3 z1
    go_wp2_with fail
    go_ret
    exact ⟨rfl, hkw5⟩

end Go.Proofs.YtmgjegokkbghlabDoor

namespace Go.Proofs.YtmgjegokkbghlabDoor.either
open Go.ChangeShapes Go.WideShapes Go.ChangeAt Go.RowKit Circ Runs
open Go.ChangeMaps (open_string shut_string)
set_option linter.unusedVariables false

theorem own : ownKnob Tryd.prog.godebug = none := by kernel_rfl
theorem laidOut : laidOutB Tryd.prog = true := by kernel_rfl
def laidR : List (String × DataW Unit) := [("unicode/utf8.acceptRanges", Rows.laid_unicode_utf8_acceptRanges), ("unicode/utf8.first", Rows.laid_unicode_utf8_first)]

/-- the wrap with the listed variables and the world's shape -/
theorem handed_and_shaped {H : Type} {enc : TypeId × Value → H} {a : Assume} {C : Checked} {os : Os} {f : FuncId} {fn : Func} {s : ChangeSpec} {conds : List PathCond} {apart fresh handsOn again : Bool} {X : World → Array Value → Prop}
    (hX : ∀ (w w' : World) (args : Array Value), w.heap = w'.heap → X w args → X w' args)
    (own : ownKnob C.prog.godebug = none) (started : os.Started) (noInit : C.prog.inits.idxOf? f = none) (hfn : C.prog.funcs[f]? = some fn)
    (witness : ∃ (w : World) (tape : Tape) (i : Input), w.os = os ∧ (w.forCall tape i).Shaped C.prog ∧ i.vars = [] ∧ Input.okWide C.prog (w.forCall tape i) .any w.heap.size f i ∧
      ((s.pre enc C.prog fn conds apart (w.forCall tape i).memory i.args ∧ X (w.forCall tape i).memory i.args) ∧ sizedMet enc C.prog fn (OpenSpec.ofChange s) apart (w.forCall tape i).memory i.args) ∧ a.holds C.prog (lone (Frame.enter C.prog f i.args .normal) [] (w.forCall tape i)))
    (contract : ∀ (W : World) (base : Nat) (args : Array Value) (ds gs : List (DataW H)) (before : List MemPlace),
      (∀ (j : Nat) t v, fn.params[j]? = some t → args[j]? = some v → Value.okWide C.prog W .any base t v) →
      DataW.Whole enc C.prog fn.params.toList s.vars apart W args.toList ds gs before →
      (DataW.weightsEach C.prog (fn.params.toList ++ s.plain.varTypes C.prog) (ds ++ gs)).all (· ≤ reachBytes) = true →
      W.ShapedOpen C.prog → X W args →
      Calls C.prog f args W fun e W' => ∃ v, e = .returned v ∧ s.post enc C.prog fn apart fresh handsOn again W args v W') :
    ReturnsInHanded a C os f .any (fun w args => (s.pre enc C.prog fn conds apart w args ∧ X w args) ∧ sizedMet enc C.prog fn (OpenSpec.ofChange s) apart w args) (s.post enc C.prog fn apart fresh handsOn again) := by
  refine returnsInHanded_of_calls own started noInit witness ?_
  intro w tape i _ hsh _ hok hpre hholds
  obtain ⟨_, _, _, fn', hfn', _, _, _, _, hval⟩ := hok
  have e : fn' = fn := Option.some.inj (hfn'.symm.trans hfn)
  subst e
  obtain ⟨⟨⟨ds, gs, before, hw, hc⟩, hx⟩, hz⟩ := hpre
  have hw' := DataW.Whole.of_heap (w' := w.forCall tape i) (by rfl) hw
  refine (contract (w.forCall tape i) w.heap.size i.args ds gs before hval hw' (hz.weights hw) hsh (hX _ _ _ (by rfl) hx)).mono fun e W' ⟨v, he, hp⟩ => ?_
  subst he
  exact ChangeSpec.post_blind hp

theorem glob_of {W : World} (h : W.ShapedOpen Tryd.prog) : Glob W :=
  cell_of_shapedOpen_int (zero := #[.int .i64 0]) (t := 3) h (of_decide_eq_true (by kernel_rfl)) (by kernel_rfl) rfl (by kernel_rfl) (by kernel_rfl) Tryd.underlying3

set_option maxRecDepth 100000 in
theorem lifted (os : Os) (started : os.Started) (H : Type) (enc : TypeId × Value → H) :
    ReturnsInHanded {} Tryd.checked os 5 .any (fun w args => (Rows.eitherSpec.pre enc Tryd.prog Tryd.f5 Rows.eitherRow.domain false w args ∧ laidMetH Tryd.prog laidR w) ∧ sizedMet enc Tryd.prog Tryd.f5 (OpenSpec.ofChange Rows.eitherSpec) false w args)
      (Rows.eitherSpec.post enc Tryd.prog Tryd.f5 false true false false) := by
  refine handed_and_shaped (C := Tryd.checked) (X := fun w _ => laidMetH Tryd.prog laidR w) (fun _ _ _ hh h => h.of_heap hh) own started (by kernel_rfl) Tryd.func5
    (ChangeSpec.witness_shaped (enc := enc) (C := Tryd.checked) (os := os) (X := fun w _ => laidMetH Tryd.prog laidR w) false (World.laidAll Tryd.prog os laidR) #[.string ⟨#[]⟩, .string ⟨#[]⟩, .string ⟨#[]⟩] 8 (World.laidAll_os _ _ _)
      (World.shaped_of_ZipB (by kernel_rfl) (by kernel_rfl)) (by kernel_rfl) (by kernel_rfl) (by kernel_rfl)
      (by rw [MakeChecks.laidMetH_plain _ _ _ (by kernel_rfl)]; exact laidMet_laidAll _ (by kernel_rfl) (by kernel_rfl))) ?_
  intro W base args ds gs before hval0 hW hwt hsh _
  have hval : ∀ (j : Nat) t v, Tryd.f5.params[j]? = some t → args[j]? = some v → Value.okWide Tryd.prog W .any base t v := hval0
  have hW' := hW
  obtain ⟨p, q, hA0, hV, rfl, hfz, hnd⟩ := hW
  have hA : DataW.TrodAll enc Tryd.prog W 0 (fun _ => true) true Tryd.f5.params.toList args.toList ds p := hA0
  rw [Tryd.params5] at hA hval
  obtain ⟨v0, vs0, d0, ds0, p0, q0, hargs, rfl, rfl, h0, r0⟩ := trodAll_cons hA
  obtain ⟨v1, vs1, d1, ds1, p1, q1, rfl, rfl, rfl, h1, r1⟩ := trodAll_cons r0
  obtain ⟨v2, vs2, d2, ds2, p2, q2, rfl, rfl, rfl, h2, r2⟩ := trodAll_cons r1
  obtain ⟨rfl, rfl, rfl⟩ := trodAll_nil r2
  obtain rfl : args = #[v0, v1, v2] := by cases args; simp_all
  obtain ⟨rfl, rfl⟩ := trodVars_none hV
  obtain ⟨a0, rfl, rfl, rfl, w0⟩ := open_string Tryd.underlying9 (hval 0 9 v0 rfl rfl) h0
  obtain ⟨a1, rfl, rfl, rfl, w1⟩ := open_string Tryd.underlying9 (hval 1 9 v1 rfl rfl) h1
  obtain ⟨a2, rfl, rfl, rfl, w2⟩ := open_string Tryd.underlying9 (hval 2 9 v2 rfl rfl) h2
  clear hA0 hval0
  have hmx : reachBytes ≤ 1000000000000000 := by decide
  have hts : ∀ j, j < 3 → (Tryd.f5.params.toList ++ Rows.eitherSpec.plain.varTypes Tryd.prog)[j]? = some 9 := by
    rw [Tryd.params5]
    intro j hj
    have : j = 0 ∨ j = 1 ∨ j = 2 := by omega
    rcases this with rfl | rfl | rfl <;> rfl
  have z0 : a0.size ≤ reachBytes := by have := sized_string hwt (j := 0) (hts 0 (by omega)) rfl; simpa using this
  have z1 : a1.size ≤ reachBytes := by have := sized_string hwt (j := 1) (hts 1 (by omega)) rfl; simpa using this
  have z2 : a2.size ≤ reachBytes := by have := sized_string hwt (j := 2) (hts 2 (by omega)) rfl; simpa using this
  refine (either_walk (glob_of hsh) (Nat.le_trans z0 hmx) (Nat.le_trans z1 hmx) (Nat.le_trans z2 hmx)).mono fun e W' ⟨he, hk⟩ => ?_
  subst he
  have bel : Below W.heap.size W W' := hk.below (Nat.le_refl _) (by simp)
  exact ⟨_, rfl, _, _, _, [], _, [], hW', trodAll_mk1 (shut_bool Tryd.underlying4 _), (trodAll_cons_mk (shut_string Tryd.underlying9 w0) (trodAll_cons_mk (shut_string Tryd.underlying9 w1) (trodAll_cons_mk (shut_string Tryd.underlying9 w2) trodAll_mk0))), rfl, bel.frame _, fun h => by cases h⟩

theorem over : Rows.EitherSaid :=
  OpenClaim.holds_of_wide 5 Tryd.f5 rfl rfl rfl rfl rfl rfl rfl ⟨rfl, rfl, rfl, rfl, rfl⟩ rfl rfl rfl rfl rfl (by kernel_rfl) Tryd.func5 (by kernel_rfl)
    (of_decide_eq_true (by kernel_rfl)) (by unfold Func.isWrapper; first | (rw [if_pos (by decide +kernel)]; kernel_rfl) | (rw [if_neg (by decide +kernel)]; exact ⟨rfl, rfl⟩))
    (fun os started H enc _ => lifted os started H enc)

/-- ████ THE STATEMENT ████ -/
theorem proved : Rows.EitherCardSaid :=
  Claim7.holds_tied_plain_at .later [] [.data, .pinned] true (true, "7947b777a801ddcd03c06ccdcd81da4b6abb03f16af509282a4a1dab68c08d39") false over (fun _ h => by cases h) (by kernel_rfl) (fun _ h => by cases h) either_row_tie rfl ⟨rfl, rfl⟩ (by kernel_rfl) rfl
    (fun f fn hf hfn => by
      obtain rfl : f = 5 := Option.some.inj ((show Tryd.prog.funcNamed "diagram/diagramkeep.Either" = some 5 by kernel_rfl).symm.trans hf) |>.symm
      obtain rfl : fn = Tryd.f5 := (Option.some.inj (Tryd.func5.symm.trans hfn)).symm
      exact ⟨by kernel_rfl, fun j t ht => by
        rw [Tryd.params5] at ht
        have hm : t ∈ [9, 9, 9] := by simpa using Array.mem_of_getElem? ht
        have hall : ([9, 9, 9].all fun u => !Tryd.prog.wantsStandIn u) = true := by kernel_rfl
        exact (show Tryd.prog.wantsStandIn t = false by simpa using List.all_eq_true.1 hall t (by simpa using hm))⟩)
    (by kernel_rfl)
#print axioms proved
end Go.Proofs.YtmgjegokkbghlabDoor.either
