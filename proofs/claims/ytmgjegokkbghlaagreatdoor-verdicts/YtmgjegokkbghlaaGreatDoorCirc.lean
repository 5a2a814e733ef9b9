/- Circuits as texts: words, lines, what is wrong with them; the machine that a text is. Plain mathematics. No program, no model. -/
import Derived.Test.YtmgjegokkbghlaaGreatDoorGram
import Derived.Test.YtmgjegokkbghlaaGreatDoorRuns
namespace Go.Proofs.YtmgjegokkbghlaaGreatDoor.Circ
open Gram Runs

/-! ### bytes -/
def mk (l : List UInt8) : W := ⟨l.toArray⟩
def bl (s : W) : List UInt8 := s.data.toList
theorem bl_mk (l : List UInt8) : bl (mk l) = l := rfl
theorem mk_bl (s : W) : mk (bl s) = s := by cases s; rfl
theorem bl_len (s : W) : (bl s).length = s.size := Array.length_toList
theorem mk_size (l : List UInt8) : (mk l).size = l.length := rfl
theorem bl_get (s : W) (i : Nat) (h : i < s.size) : (bl s)[i]'(by rw [bl_len]; exact h) = s[i] := rfl
theorem bl_ext {s t : W} (h : bl s = bl t) : s = t := by rw [← mk_bl s, ← mk_bl t, h]
theorem bl_extract (s : W) (a b : Nat) : bl (s.extract a b) = ((bl s).take b).drop a := by
  unfold bl
  rw [ByteArray.data_extract, Array.toList_extract, List.extract_eq_take_drop, List.drop_take]
theorem bl_cons (s : W) (h : 0 < s.size) : bl s = s[0] :: (bl s).drop 1 := by
  have h' : 0 < (bl s).length := by rw [bl_len]; exact h
  cases hb : bl s with
  | nil => rw [hb] at h'; simp at h'
  | cons x r =>
    have := bl_get s 0 h
    simp only [hb] at this
    simp at this
    rw [this]; simp

def an (b : UInt8) : Bool := letter b || digit b
/-- one of = ? ! & ^ | ( ) -/
def sign (b : UInt8) : Bool := b == 61 || b == 63 || b == 33 || b == 38 || b == 94 || b == 124 || b == 40 || b == 41
def okW (l : List UInt8) : Bool := isName (mk l) || l == [48] || l == [49]
def flush (cur : List UInt8) : Option (List W) := if cur.isEmpty then some [] else if okW cur then some [mk cur] else none
/-- the words of a line: letters and digits that stand together so far, and the rest -/
def wordsA : List UInt8 → List UInt8 → Option (List W)
  | cur, [] => flush cur
  | cur, c :: r => if an c then wordsA (cur ++ [c]) r else match flush cur with
    | none => none
    | some pre => if c == 32 then (wordsA [] r).map (pre ++ ·) else if sign c then (wordsA [] r).map (fun x => pre ++ mk [c] :: x) else none
def wordsOf (l : List UInt8) : Option (List W) := wordsA [] l

theorem wordsA_an : ∀ (l cur : List UInt8), wordsA cur l = wordsA (cur ++ l.takeWhile an) (l.dropWhile an)
  | [], cur => by simp
  | c :: r, cur => by
    by_cases h : an c = true
    · rw [wordsA, if_pos h, wordsA_an r (cur ++ [c]), List.takeWhile_cons, if_pos h, List.dropWhile_cons, if_pos h]
      simp
    · rw [List.takeWhile_cons, if_neg h, List.dropWhile_cons, if_neg h]
      simp
theorem wordsOf_nil : wordsOf [] = some [] := rfl
theorem wordsOf_blank (r : List UInt8) : wordsOf (32 :: r) = wordsOf r := by
  have h : an 32 = false := by decide
  unfold wordsOf
  rw [wordsA, h]
  simp [flush]
theorem wordsOf_sign {c : UInt8} (h : an c = false) (h32 : c ≠ 32) (r : List UInt8) : wordsOf (c :: r) = if sign c then (wordsOf r).map (mk [c] :: ·) else none := by
  unfold wordsOf
  rw [wordsA, h]
  simp [flush, h32]
theorem flush_word {cur : List UInt8} (h : cur ≠ []) : flush cur = if okW cur then some [mk cur] else none := by
  unfold flush
  rw [if_neg (by simpa using h)]
theorem wordsA_stop {cur l : List UInt8} (hc : cur ≠ []) (hl : ∀ c r, l = c :: r → an c = false) : wordsA cur l = if okW cur then (wordsOf l).map (mk cur :: ·) else none := by
  cases l with
  | nil => rw [wordsA, flush_word hc]; simp [wordsOf, wordsA, flush]
  | cons c r =>
    have h := hl c r rfl
    rw [wordsA, h, flush_word hc]
    by_cases ho : okW cur = true
    · rw [if_pos ho, if_pos ho]
      by_cases h32 : c = 32
      · subst h32; rw [wordsOf_blank]; simp [wordsOf]
      · rw [wordsOf_sign h h32]
        have e : (c == 32) = false := by simpa using h32
        cases hs : sign c
        · simp [e]
        · simp [e, wordsOf]
          cases wordsA [] r <;> simp
    · rw [if_neg ho, if_neg ho]; simp
theorem dropWhile_head {l : List UInt8} {c : UInt8} {r : List UInt8} (h : l.dropWhile an = c :: r) : an c = false := by
  induction l with
  | nil => simp at h
  | cons x t ih =>
    rw [List.dropWhile_cons] at h
    by_cases hx : an x = true
    · rw [if_pos hx] at h; exact ih h
    · rw [if_neg hx] at h; cases h; simpa using hx
theorem wordsOf_word {c : UInt8} (h : an c = true) (r : List UInt8) : wordsOf (c :: r) = if okW (c :: r.takeWhile an) then (wordsOf (r.dropWhile an)).map (mk (c :: r.takeWhile an) :: ·) else none := by
  have e : wordsOf (c :: r) = wordsA ([c] ++ r.takeWhile an) (r.dropWhile an) := by
    unfold wordsOf
    rw [wordsA, if_pos h, wordsA_an]
    simp
  rw [e, wordsA_stop (by simp) (fun c' r' hd => dropWhile_head hd)]
  simp

/-- what stands as one at the start -/
def aheadL (l : List UInt8) : List UInt8 := l.take (max (l.takeWhile an).length 1)
theorem tw_le (l : List UInt8) : (l.takeWhile an).length ≤ l.length := by
  induction l with
  | nil => simp
  | cons x r ih => rw [List.takeWhile_cons]; split <;> simp <;> omega
theorem tw_at : ∀ (l : List UInt8) (k : Nat) (h : k < l.length), k ≤ (l.takeWhile an).length → ((an l[k] = true → k + 1 ≤ (l.takeWhile an).length) ∧ (an l[k] = false → (l.takeWhile an).length = k))
  | [], k, h, _ => by simp at h
  | x :: r, 0, h, hk => by
    rw [List.takeWhile_cons]
    constructor
    · intro ha; simp at ha; rw [if_pos ha]; simp
    · intro ha; simp at ha; rw [if_neg (by simp [ha])]; rfl
  | x :: r, k + 1, h, hk => by
    rw [List.takeWhile_cons] at hk ⊢
    by_cases hx : an x = true
    · rw [if_pos hx] at hk ⊢
      have := tw_at r k (by simpa using h) (by simpa using hk)
      simp only [List.length_cons, List.getElem_cons_succ]
      exact ⟨fun ha => by have := this.1 ha; omega, fun ha => by have := this.2 ha; omega⟩
    · rw [if_neg hx] at hk; simp at hk
theorem ahead_an {c : UInt8} (h : an c = true) (r : List UInt8) : aheadL (c :: r) = c :: r.takeWhile an := by
  unfold aheadL
  rw [List.takeWhile_cons, if_pos h]
  simp
  rw [List.prefix_iff_eq_take.1 (List.takeWhile_prefix an)]
  simp
theorem ahead_sign {c : UInt8} (h : an c = false) (r : List UInt8) : aheadL (c :: r) = [c] := by
  unfold aheadL
  rw [List.takeWhile_cons, if_neg (by simp [h])]
  simp

theorem wordsOf_trim : ∀ l : List UInt8, wordsOf (l.dropWhile (· == 32)) = wordsOf l
  | [] => rfl
  | c :: r => by
    rw [List.dropWhile_cons]
    by_cases h : c = 32
    · subst h
      rw [if_pos (by decide), wordsOf_trim r, wordsOf_blank]
    · rw [if_neg (by simpa using h)]
theorem trim_head {l : List UInt8} {c : UInt8} {r : List UInt8} (h : l.dropWhile (· == 32) = c :: r) : c ≠ 32 := by
  induction l with
  | nil => simp at h
  | cons x t ih =>
    rw [List.dropWhile_cons] at h
    by_cases hx : x = 32
    · rw [if_pos (by simpa using hx)] at h; exact ih h
    · rw [if_neg (by simpa using hx)] at h; cases h; exact hx
theorem trim_len (l : List UInt8) : (l.dropWhile (· == 32)).length ≤ l.length := by
  induction l with
  | nil => simp
  | cons x r ih => rw [List.dropWhile_cons]; split <;> simp <;> omega
def signP : List UInt8 → Bool
  | [c] => sign c
  | _ => false
/-- is what stands ahead a word? -/
def okP (l : List UInt8) : Bool := okW l || signP l
theorem sign_an {c : UInt8} (h : an c = true) : sign c = false := by
  unfold sign
  simp only [Bool.or_eq_false_iff, beq_eq_false_iff_ne]
  refine ⟨⟨⟨⟨⟨⟨⟨?_, ?_⟩, ?_⟩, ?_⟩, ?_⟩, ?_⟩, ?_⟩, ?_⟩ <;> (intro e; subst e; exact absurd h (by decide))
/-- ONE WORD, AS THE PROGRAM CUTS IT -/
theorem wordsOf_ahead {c : UInt8} {r : List UInt8} (h32 : c ≠ 32) : wordsOf (c :: r) = if okP (aheadL (c :: r)) then (wordsOf ((c :: r).drop (aheadL (c :: r)).length)).map (mk (aheadL (c :: r)) :: ·) else none := by
  by_cases h : an c = true
  · rw [ahead_an h, wordsOf_word h]
    have e1 : okP (c :: r.takeWhile an) = okW (c :: r.takeWhile an) := by
      unfold okP
      cases ht : r.takeWhile an with
      | nil => simp [signP, sign_an h]
      | cons x t => simp [signP]
    have e2 : (c :: r).drop (c :: r.takeWhile an).length = r.dropWhile an := by
      simp only [List.length_cons, List.drop_succ_cons]
      have : ∀ l : List UInt8, l.drop (l.takeWhile an).length = l.dropWhile an := by
        intro l
        induction l with
        | nil => rfl
        | cons x t ih =>
          rw [List.takeWhile_cons, List.dropWhile_cons]
          split
          · simpa using ih
          · rfl
      exact this r
    rw [e1, e2]
  · have h' : an c = false := by simpa using h
    rw [ahead_sign h', wordsOf_sign h' h32]
    have e1 : okP [c] = sign c := by
      unfold okP
      have : okW [c] = false := by
        unfold okW
        have hn : isName (mk [c]) = false := not_name_of (w := mk [c]) (b := c) (r := []) rfl (by
          unfold an at h'
          exact (Bool.or_eq_false_iff.1 h').1)
        have hd : digit c = false := by unfold an at h'; exact (Bool.or_eq_false_iff.1 h').2
        rw [hn]
        simp
        exact ⟨fun e => by subst e; exact absurd hd (by decide), fun e => by subst e; exact absurd hd (by decide)⟩
      rw [this]; rfl
    rw [e1]
    rfl

/-! ### lines -/
structure Ln where
  kind : Nat
  name : W
  first : W
  ws : List W
  ex : Ex
def bIn : W := ⟨#[105, 110]⟩
def bLatch : W := ⟨#[108, 97, 116, 99, 104]⟩
def bNext : W := ⟨#[110, 101, 120, 116]⟩
def bBad : W := ⟨#[98, 97, 100]⟩
def eqs : W := ⟨#[61]⟩
def que : W := ⟨#[63]⟩
def emp : W := ⟨#[]⟩
def isFirst (w : W) : Bool := decide (w = zer) || decide (w = one) || decide (w = que)
def lineOf : List W → Option Ln
  | [] => some ⟨0, emp, emp, [], .lit false⟩
  | x :: r =>
    if x = bIn then (match r with
      | [n] => if isName n then some ⟨1, n, emp, [], .lit false⟩ else none
      | _ => none)
    else if x = bLatch then (match r with
      | [n, f] => if isName n && isFirst f then some ⟨2, n, f, [], .lit false⟩ else none
      | _ => none)
    else if x = bNext then (match r with
      | n :: q :: e => if isName n && decide (q = eqs) then (parseW e).map fun ex => ⟨3, n, emp, e, ex⟩ else none
      | _ => none)
    else if x = bBad then (match r with
      | q :: e => if q = eqs then (parseW e).map fun ex => ⟨4, emp, emp, e, ex⟩ else none
      | _ => none)
    else none
def sayOf (l : List UInt8) : Option Ln := match wordsOf l with
  | none => none
  | some ws => lineOf ws

/-- the pieces between bytes 10 -/
def pieces : List UInt8 → List UInt8 → List (List UInt8)
  | cur, [] => [cur]
  | cur, c :: r => if c == 10 then cur :: pieces [] r else pieces (cur ++ [c]) r
/-- the lines as far as they can be read -/
def linesOf : List (List UInt8) → Option (List Ln)
  | [] => some []
  | p :: ps => match sayOf p with
    | none => none
    | some x => (linesOf ps).map (x :: ·)
/-- the place of the first that can't -/
def wrongAt : List (List UInt8) → Nat
  | [] => 0
  | p :: ps => match sayOf p with
    | none => 0
    | some _ => wrongAt ps + 1

def decl (x : Ln) : Bool := x.kind == 1 || x.kind == 2
/-- two lines that say the same -/
def clash (a b : Ln) : Bool := ((decl a && decl b) || (a.kind == b.kind && b.kind != 0)) && decide (a.name = b.name)
def nth (ls : List Ln) (i : Nat) : Ln := ls.getD i ⟨0, emp, emp, [], .lit false⟩
def howMany (k : Nat) (ls : List Ln) : Nat := ls.countP fun x => x.kind == k
def named (k : Nat) (ls : List Ln) : List W := (ls.filter fun x => x.kind == k).map (·.name)
def has (l : List W) (x : W) : Bool := l.any fun y => decide (y = x)
theorem has_iff {l : List W} {x : W} : has l x = true ↔ x ∈ l := by
  unfold has
  rw [List.any_eq_true]
  constructor
  · rintro ⟨y, hy, h⟩; have : y = x := of_decide_eq_true h; exact this ▸ hy
  · intro h; exact ⟨x, h, decide_eq_true rfl⟩
def declared (ls : List Ln) : List W := (ls.filter decl).map (·.name)
def twiceAt (ls : List Ln) (i : Nat) : Bool := (ls.take i).any fun a => clash a (nth ls i)
def manyAt (ls : List Ln) (i : Nat) : Bool := decide (3 < howMany 1 (ls.take (i + 1))) || decide (4 < howMany 2 (ls.take (i + 1)))
def nameAt (ls : List Ln) (i : Nat) : Bool := ((nth ls i).kind == 3 && !has (named 2 ls) (nth ls i).name) || (nth ls i).ex.names.any fun x => !has (declared ls) x
def lackAt (ls : List Ln) (i : Nat) : Bool := (nth ls i).kind == 2 && !has (named 3 ls) (nth ls i).name
def firstAt (p : Nat → Bool) (n : Nat) : Option Nat := (List.range n).find? p

inductive Got
  | err (e line : Nat)
  | ok (ls : List Ln)
def judge (ls : List Ln) : Got := match firstAt (twiceAt ls) ls.length with
  | some i => .err 8 (i + 1)
  | none => match firstAt (manyAt ls) ls.length with
    | some i => .err 4 (i + 1)
    | none => match firstAt (nameAt ls) ls.length with
      | some i => .err 9 (i + 1)
      | none => match firstAt (lackAt ls) ls.length with
        | some i => .err 10 (i + 1)
        | none => if howMany 4 ls = 0 then .err 10 0 else .ok ls
def readP (t : List UInt8) : Got := if 1000 < t.length then .err 4 0 else match linesOf (pieces [] t) with
  | none => .err 7 (wrongAt (pieces [] t) + 1)
  | some ls => judge ls

/-! ### the machine of a circuit -/
/-- the place of a variable's value in a number, the first one the highest digit -/
def dig (n number j : Nat) : Bool := (number >>> (n - 1 - j)) &&& 1 == 1
def digs (n number : Nat) : List Bool := (List.range n).map (dig n number)
def numOf (l : List Bool) : Nat := l.foldl (fun a b => 2 * a + if b then 1 else 0) 0
def look : List W → List Bool → W → Bool
  | n :: ns, v :: vs, x => if n = x then v else look ns vs x
  | _, _, _ => false
def latches (ls : List Ln) : List Ln := ls.filter fun x => x.kind == 2
def inputs (ls : List Ln) : List W := named 1 ls
def nextOf (ls : List Ln) (n : W) : Ex := match ls.find? fun x => x.kind == 3 && decide (x.name = n) with
  | some x => x.ex
  | none => .lit false
def badOf (ls : List Ln) : Ex := match ls.find? fun x => x.kind == 4 with
  | some x => x.ex
  | none => .lit false
def valuesOf (ls : List Ln) (s i : Nat) (x : W) : Bool := look (named 2 ls ++ inputs ls) (digs (named 2 ls).length s ++ digs (inputs ls).length i) x
def mayFirst (f : W) (b : Bool) : Bool := if f = zer then !b else if f = one then b else true
def sysOf (ls : List Ln) : Sys where
  S := 2 ^ (named 2 ls).length
  I := 2 ^ (inputs ls).length
  first s := (List.range (named 2 ls).length).all fun j => mayFirst ((latches ls).getD j ⟨0, emp, emp, [], .lit false⟩).first (dig (named 2 ls).length s j)
  step s i := numOf ((named 2 ls).map fun n => (nextOf ls n).ev (valuesOf ls s i))
  bad s i := (badOf ls).ev (valuesOf ls s i)

theorem numOf_lt (l : List Bool) : numOf l < 2 ^ l.length := by
  have key : ∀ (l : List Bool) (a : Nat), l.foldl (fun a b => 2 * a + if b then 1 else 0) a + 1 ≤ (a + 1) * 2 ^ l.length := by
    intro l
    induction l with
    | nil => intro a; simp
    | cons b l ih =>
      intro a
      rw [List.foldl_cons, List.length_cons, Nat.pow_succ]
      refine Nat.le_trans (ih _) ?_
      have : 2 * a + (if b = true then 1 else 0) + 1 ≤ (a + 1) * 2 := by split <;> omega
      calc (2 * a + (if b = true then 1 else 0) + 1) * 2 ^ l.length ≤ ((a + 1) * 2) * 2 ^ l.length := Nat.mul_le_mul_right _ this
        _ = (a + 1) * (2 ^ l.length * 2) := by rw [Nat.mul_assoc, Nat.mul_comm 2]
  have := key l 0
  unfold numOf
  omega

end Go.Proofs.YtmgjegokkbghlaaGreatDoor.Circ
