/- Expressions of circuits: plain mathematics of words: the grammar, the descent that reads it, the cutting at signs. No program, no model. -/
namespace Go.Proofs.YtmgjegokkbghlaaGreatDoor.Gram

abbrev W := ByteArray
def sg : Nat → W
  | 0 => ⟨#[124]⟩
  | 1 => ⟨#[94]⟩
  | _ => ⟨#[38]⟩
def bang : W := ⟨#[33]⟩
def opn : W := ⟨#[40]⟩
def cls : W := ⟨#[41]⟩
def zer : W := ⟨#[48]⟩
def one : W := ⟨#[49]⟩
def letter (b : UInt8) : Bool := 97 ≤ b && b ≤ 122
def digit (b : UInt8) : Bool := 48 ≤ b && b ≤ 57
def isName (w : W) : Bool := match w.data.toList with
  | [] => false
  | b :: _ => letter b && decide (w.size ≤ 8)

inductive Ex
  | lit (b : Bool)
  | nm (w : W)
  | no (e : Ex)
  | bin (k : Nat) (a b : Ex)

def op (k : Nat) (a b : Bool) : Bool := match k with
  | 0 => a || b
  | 1 => a != b
  | _ => a && b
def Ex.ev (v : W → Bool) : Ex → Bool
  | .lit b => b
  | .nm w => v w
  | .no e => !e.ev v
  | .bin k a b => op k (a.ev v) (b.ev v)
/-- the words, each sign behind what it is of -/
def Ex.post : Ex → List W
  | .lit b => [if b then one else zer]
  | .nm w => [w]
  | .no e => e.post ++ [bang]
  | .bin k a b => a.post ++ b.post ++ [sg k]

inductive G : Nat → Nat → List W → Ex → Prop
  | lit (d : Nat) (b : Bool) : G 3 d [if b then one else zer] (.lit b)
  | nm (d : Nat) (w : W) (h : isName w = true) : G 3 d [w] (.nm w)
  | no {d : Nat} {l : List W} {e : Ex} (h : G 3 d l e) : G 3 (d + 1) (bang :: l) (.no e)
  | br {d : Nat} {l : List W} {e : Ex} (h : G 0 d l e) : G 3 (d + 1) (opn :: (l ++ [cls])) e
  | up {k d : Nat} {l : List W} {e : Ex} (hk : k < 3) (h : G (k + 1) d l e) : G k d l e
  | bin {k d : Nat} {l r : List W} {e f : Ex} (hk : k < 3) (h : G k d l e) (h' : G (k + 1) d r f) : G k d (l ++ sg k :: r) (.bin k e f)

theorem isName_head {w : W} (h : isName w = true) : ∃ b r, w.data.toList = b :: r ∧ letter b = true := by
  unfold isName at h
  split at h
  · cases h
  · rename_i b r hb
    simp at h
    exact ⟨b, r, hb, h.1⟩
theorem not_name_of {w : W} {b : UInt8} {r : List UInt8} (h : w.data.toList = b :: r) (hb : letter b = false) : isName w = false := by
  simp [isName, h, hb]
theorem name_ne {w x : W} (h : isName w = true) (hx : isName x = false) : w ≠ x := fun e => by rw [e, hx] at h; cases h
theorem nn_bang : isName bang = false := by decide
theorem nn_opn : isName opn = false := by decide
theorem nn_cls : isName cls = false := by decide
theorem nn_zer : isName zer = false := by decide
theorem nn_one : isName one = false := by decide
theorem nn_sg (k : Nat) : isName (sg k) = false := by
  rcases k with _ | _ | k
  · decide
  · decide
  · show isName ⟨#[38]⟩ = false; decide
theorem sg_cases {k : Nat} (hk : k < 3) : k = 0 ∨ k = 1 ∨ k = 2 := by omega
theorem sg_inj {j k : Nat} (hj : j < 3) (hk : k < 3) (h : sg j = sg k) : j = k := by
  rcases sg_cases hj with rfl | rfl | rfl <;> rcases sg_cases hk with rfl | rfl | rfl <;> first | rfl | (exact absurd h (by decide))
theorem sg_ne (k : Nat) : sg k ≠ bang ∧ sg k ≠ opn ∧ sg k ≠ cls ∧ sg k ≠ zer ∧ sg k ≠ one := by
  rcases k with _ | _ | k
  · decide
  · decide
  · show (⟨#[38]⟩ : W) ≠ bang ∧ (⟨#[38]⟩ : W) ≠ opn ∧ (⟨#[38]⟩ : W) ≠ cls ∧ (⟨#[38]⟩ : W) ≠ zer ∧ (⟨#[38]⟩ : W) ≠ one
    decide
theorem consts_ne : bang ≠ opn ∧ bang ≠ cls ∧ bang ≠ zer ∧ bang ≠ one ∧ opn ≠ cls ∧ opn ≠ zer ∧ opn ≠ one ∧ cls ≠ zer ∧ cls ≠ one ∧ zer ≠ one := by decide

/-! ### the descent -/
def loopF (rec : List W → Option (Ex × List W)) (k : Nat) : Nat → Ex → List W → Option (Ex × List W)
  | 0, _, _ => none
  | m + 1, e, ws => match ws with
    | [] => some (e, [])
    | x :: r => if x = sg k then (match rec r with
        | none => none
        | some (f, r') => loopF rec k m (.bin k e f) r') else some (e, x :: r)

def chainF : Nat → Nat → Nat → List W → Option (Ex × List W)
  | 0, _, _, _ => none
  | n + 1, k, d, ws =>
    if k < 3 then
      match chainF n (k + 1) d ws with
      | none => none
      | some (e, r) => loopF (chainF n (k + 1) d) k (r.length + 1) e r
    else match ws with
      | [] => none
      | x :: r =>
        if x = bang then (match d with
          | 0 => none
          | d + 1 => match chainF n 3 d r with
            | none => none
            | some (e, r') => some (.no e, r'))
        else if x = opn then (match d with
          | 0 => none
          | d + 1 => match chainF n 0 d r with
            | some (e, y :: r') => if y = cls then some (e, r') else none
            | _ => none)
        else if isName x then some (.nm x, r)
        else if x = zer then some (.lit false, r)
        else if x = one then some (.lit true, r)
        else none

/-- what follows does not go on at this level -/
def noCont (k : Nat) (r : List W) : Prop := ∀ x r', r = x :: r' → ∀ j, k ≤ j → j < 3 → x ≠ sg j

theorem loopF_sound {rec : List W → Option (Ex × List W)} {k d : Nat} (hk : k < 3) (hrec : ∀ ws e r, rec ws = some (e, r) → ∃ l, ws = l ++ r ∧ G (k + 1) d l e) :
    ∀ (m : Nat) (e0 : Ex) (l0 ws : List W) (e : Ex) (r : List W), G k d l0 e0 → loopF rec k m e0 ws = some (e, r) → ∃ l, l0 ++ ws = l ++ r ∧ G k d l e := by
  intro m
  induction m with
  | zero => intro e0 l0 ws e r _ h; simp [loopF] at h
  | succ m ih =>
    intro e0 l0 ws e r hG h
    unfold loopF at h
    split at h
    · cases h
      exact ⟨l0, by simp, hG⟩
    · rename_i x ws'
      by_cases hx : x = sg k
      · rw [if_pos hx] at h
        split at h
        · cases h
        · rename_i f r' hr
          obtain ⟨l1, h1, h2⟩ := hrec _ _ _ hr
          obtain ⟨l, h3, h4⟩ := ih _ (l0 ++ sg k :: l1) r' e r (G.bin hk hG h2) h
          refine ⟨l, ?_, h4⟩
          rw [← h3, h1, hx]; simp
      · rw [if_neg hx] at h
        cases h
        exact ⟨l0, rfl, hG⟩

theorem chainF_sound : ∀ (n k d : Nat) (ws : List W) (e : Ex) (r : List W), k ≤ 3 → chainF n k d ws = some (e, r) → ∃ l, ws = l ++ r ∧ G k d l e := by
  intro n
  induction n with
  | zero => intro k d ws e r _ h; simp [chainF] at h
  | succ n ih =>
    intro k d ws e r hk3 h
    unfold chainF at h
    by_cases hk : k < 3
    · rw [if_pos hk] at h
      split at h
      · cases h
      · rename_i e0 r0 h0
        obtain ⟨l0, h1, h2⟩ := ih _ _ _ _ _ (by omega) h0
        obtain ⟨l, h3, h4⟩ := loopF_sound hk (fun ws e r hr => ih (k + 1) d ws e r (by omega) hr) _ e0 l0 r0 e r (G.up hk h2) h
        exact ⟨l, by rw [h1, h3], h4⟩
    · rw [if_neg hk] at h
      obtain rfl : k = 3 := by omega
      split at h
      · cases h
      · rename_i x r0
        by_cases hb : x = bang
        · rw [if_pos hb] at h
          split at h
          · cases h
          · split at h
            · cases h
            · rename_i e1 r1 h1
              cases h
              obtain ⟨l, h2, h3⟩ := ih _ _ _ _ _ (by omega) h1
              exact ⟨bang :: l, by rw [hb, h2]; rfl, G.no h3⟩
        · rw [if_neg hb] at h
          by_cases ho : x = opn
          · rw [if_pos ho] at h
            split at h
            · cases h
            · split at h
              · rename_i e1 y r1 h1
                split at h
                · rename_i hy
                  cases h
                  obtain ⟨l, h2, h3⟩ := ih _ _ _ _ _ (by omega) h1
                  exact ⟨opn :: (l ++ [cls]), by rw [ho, h2, hy]; simp, G.br h3⟩
                · cases h
              · cases h
          · rw [if_neg ho] at h
            by_cases hn : isName x = true
            · rw [if_pos hn] at h
              cases h
              exact ⟨[x], rfl, G.nm d x hn⟩
            · rw [if_neg hn] at h
              by_cases hz : x = zer
              · rw [if_pos hz] at h
                cases h
                exact ⟨[zer], by rw [hz]; rfl, G.lit d false⟩
              · rw [if_neg hz] at h
                by_cases h1 : x = one
                · rw [if_pos h1] at h
                  cases h
                  exact ⟨[one], by rw [h1]; rfl, G.lit d true⟩
                · rw [if_neg h1] at h
                  cases h

theorem G.pos {k d : Nat} {l : List W} {e : Ex} (h : G k d l e) : 1 ≤ l.length := by
  induction h <;> (try simp) <;> omega
theorem G.le {k d : Nat} {l : List W} {e : Ex} (h : G k d l e) : k ≤ 3 := by
  induction h <;> omega
theorem chainF_short {n k d : Nat} {ws : List W} {e : Ex} {r : List W} (hk : k ≤ 3) (h : chainF n k d ws = some (e, r)) : r.length < ws.length := by
  obtain ⟨l, h1, h2⟩ := chainF_sound n k d ws e r hk h
  have := h2.pos
  rw [h1]; simp; omega

/-- a chain, part by part -/
inductive Parts (k d : Nat) : List W → List (List W) → Ex → Prop
  | one {l : List W} {e : Ex} (h : G (k + 1) d l e) : Parts k d l [l] e
  | snoc {l r : List W} {ps : List (List W)} {e f : Ex} (h : Parts k d l ps e) (h' : G (k + 1) d r f) : Parts k d (l ++ sg k :: r) (ps ++ [r]) (.bin k e f)

theorem parts_of {k d : Nat} {l : List W} {e : Ex} (hk : k < 3) (h : G k d l e) : ∃ ps, Parts k d l ps e := by
  have key : ∀ (k' d' : Nat) (l' : List W) (e' : Ex), G k' d' l' e' → k' < 3 → ∃ ps, Parts k' d' l' ps e' := by
    intro k' d' l' e' h
    induction h with
    | lit => intro h; omega
    | nm => intro h; omega
    | no => intro h; omega
    | br => intro h; omega
    | up hk h _ => intro _; exact ⟨_, .one h⟩
    | bin hk h h' ih _ =>
      intro _
      obtain ⟨ps, hp⟩ := ih hk
      exact ⟨_, .snoc hp h'⟩
  exact key k d l e h hk
theorem Parts.toG {k d : Nat} {l : List W} {ps : List (List W)} {e : Ex} (hk : k < 3) (h : Parts k d l ps e) : G k d l e := by
  induction h with
  | one h => exact .up hk h
  | snoc _ h' ih => exact .bin hk ih h'

/-- from the left: what is had, and the parts that are still to come -/
inductive Tail (k d : Nat) : Ex → List W → Ex → Prop
  | nil (e : Ex) : Tail k d e [] e
  | cons {e f g : Ex} {r t : List W} (h : G (k + 1) d r f) (h' : Tail k d (.bin k e f) t g) : Tail k d e (sg k :: (r ++ t)) g
theorem Tail.snoc {k d : Nat} {e g : Ex} {t : List W} (h : Tail k d e t g) {r : List W} {f : Ex} (hr : G (k + 1) d r f) : Tail k d e (t ++ sg k :: r) (.bin k g f) := by
  induction h with
  | nil e => have := Tail.cons (e := e) (t := []) hr (.nil _); simpa using this
  | cons h _ ih =>
    have := Tail.cons h ih
    simpa using this
theorem tail_of {k d : Nat} {l : List W} {ps : List (List W)} {e : Ex} (h : Parts k d l ps e) : ∃ p e0 t, l = p ++ t ∧ G (k + 1) d p e0 ∧ Tail k d e0 t e := by
  induction h with
  | one h => exact ⟨_, _, [], by simp, h, .nil _⟩
  | snoc _ h' ih =>
    obtain ⟨p, e0, t, h1, h2, h3⟩ := ih
    exact ⟨p, e0, _, by rw [h1, List.append_assoc], h2, h3.snoc h'⟩

theorem noCont_sg {k : Nat} (hk : k < 3) (t : List W) : noCont (k + 1) (sg k :: t) := by
  intro x r' e j hj hj3
  cases e
  exact fun h => by have := sg_inj hk hj3 h; omega
theorem noCont.up {k : Nat} {r : List W} (h : noCont k r) : noCont (k + 1) r := fun x r' e j hj hj3 => h x r' e j (by omega) hj3

theorem loopF_complete {rec : List W → Option (Ex × List W)} {k d : Nat} (hk : k < 3) :
    ∀ {e0 g : Ex} {t : List W}, Tail k d e0 t g → ∀ (m : Nat) (r : List W), noCont k r → t.length + r.length < m → (∀ q f s, q.length + s.length + 1 ≤ t.length + r.length → G (k + 1) d q f → noCont (k + 1) s → rec (q ++ s) = some (f, s)) → loopF rec k m e0 (t ++ r) = some (g, r) := by
  intro e0 g t h
  induction h with
  | nil e =>
    intro m r hr hm hrec
    obtain ⟨m, rfl⟩ : ∃ m', m = m' + 1 := ⟨m - 1, by simp at hm; omega⟩
    unfold loopF
    cases r with
    | nil => rfl
    | cons x r' =>
      simp only [List.nil_append]
      rw [if_neg (hr x r' rfl k (Nat.le_refl _) hk)]
  | @cons e f g q t hq ht ih =>
    intro m r hr hm hrec
    obtain ⟨m, rfl⟩ : ∃ m', m = m' + 1 := ⟨m - 1, by simp at hm; omega⟩
    simp only [List.length_cons, List.length_append] at hm hrec
    unfold loopF
    simp only [List.cons_append, if_true]
    have hs : noCont (k + 1) (t ++ r) := by
      cases ht with
      | nil => exact hr.up
      | cons => exact noCont_sg hk _
    have := hrec q f (t ++ r) (by simp; omega) hq hs
    rw [List.append_assoc, this]
    exact ih m r hr (by omega) (fun q' f' s' hl h1 h2 => hrec q' f' s' (by have := hq.pos; omega) h1 h2)

/-- THE DESCENT FINDS WHAT IS THERE -/
theorem chainF_complete : ∀ (n k d : Nat) (l : List W) (e : Ex) (r : List W), G k d l e → noCont k r → 4 * (l.length + r.length) + (3 - k) < n → chainF n k d (l ++ r) = some (e, r) := by
  intro n
  induction n with
  | zero => intro k d l e r _ _ h; omega
  | succ n ih =>
    intro k d l e r hG hr hn
    unfold chainF
    by_cases hk : k < 3
    · rw [if_pos hk]
      obtain ⟨ps, hp⟩ := parts_of hk hG
      obtain ⟨p, e0, t, h1, h2, h3⟩ := tail_of hp
      have hs : noCont (k + 1) (t ++ r) := by
        cases h3 with
        | nil => exact hr.up
        | cons => exact noCont_sg hk _
      have hl : l.length = p.length + t.length := by rw [h1, List.length_append]
      rw [h1, List.append_assoc, ih (k + 1) d p e0 (t ++ r) h2 hs (by simp; omega)]
      simp only
      refine loopF_complete hk h3 _ r hr (by simp) (fun q f s hl' hq hs' => ih (k + 1) d q f s hq hs' ?_)
      have := h2.pos
      omega
    · rw [if_neg hk]
      cases hG with
      | lit d b =>
        have hc := consts_ne
        cases b with
        | false => simp only [List.cons_append, List.nil_append, Bool.false_eq_true, if_false]; rw [if_neg (fun h => hc.2.2.1 h.symm), if_neg (fun h => hc.2.2.2.2.2.1 h.symm), nn_zer]; simp
        | true => simp only [List.cons_append, List.nil_append, if_true]; rw [if_neg (fun h => hc.2.2.2.1 h.symm), if_neg (fun h => hc.2.2.2.2.2.2.1 h.symm), nn_one]; simp; exact fun h => hc.2.2.2.2.2.2.2.2.2 h.symm
      | nm d w hw =>
        simp only [List.cons_append, List.nil_append]
        rw [if_neg (name_ne hw nn_bang), if_neg (name_ne hw nn_opn), if_pos hw]
      | @no d l e h =>
        simp only [List.cons_append, if_true]
        rw [ih 3 d l e r h hr (by simp at hn; omega)]
      | @br d l e h =>
        simp only [List.cons_append, List.append_assoc, List.nil_append]
        rw [if_neg (fun h => consts_ne.1 h.symm), if_pos trivial]
        have hc : noCont 0 (cls :: r) := by
          intro x r' e j _ _
          cases e
          exact fun h => (sg_ne j).2.2.1 h.symm
        rw [ih 0 d l e (cls :: r) h hc (by simp at hn ⊢; omega)]
        simp
      | up hk' _ => exact absurd hk' hk
      | bin hk' _ _ => exact absurd hk' hk

/-- the whole of some words -/
def parseW (ws : List W) : Option Ex := match chainF (4 * ws.length + 4) 0 8 ws with
  | some (e, []) => some e
  | _ => none
theorem parseW_iff {ws : List W} {e : Ex} : parseW ws = some e ↔ G 0 8 ws e := by
  unfold parseW
  constructor
  · intro h
    split at h
    · rename_i e' hc
      cases h
      obtain ⟨l, h1, h2⟩ := chainF_sound _ _ _ _ _ _ (by omega) hc
      rw [List.append_nil] at h1
      rw [h1]; exact h2
    · cases h
  · intro h
    have := chainF_complete (4 * ws.length + 4) 0 8 ws e [] h (fun x r' e => by cases e) (by simp)
    rw [List.append_nil] at this
    rw [this]
theorem G.det {ws : List W} {e f : Ex} (h : G 0 8 ws e) (h' : G 0 8 ws f) : e = f := by
  have h1 := parseW_iff.2 h
  have h2 := parseW_iff.2 h'
  rw [h1] at h2
  cases h2; rfl

/-! ### cut at a sign that stands in no bracket -/
def cutW (s : W) : Int → List W → List W → List (List W)
  | _, cur, [] => [cur]
  | o, cur, x :: r => if x = opn then cutW s (o + 1) (cur ++ [x]) r else if x = cls then cutW s (o - 1) (cur ++ [x]) r else if x = s ∧ o = 0 then cur :: cutW s 0 [] r else cutW s o (cur ++ [x]) r

theorem cutW_deep {k d : Nat} {l : List W} {e : Ex} (h : G k d l e) (s : W) : ∀ (o : Int) (cur r : List W), 1 ≤ o → cutW s o cur (l ++ r) = cutW s o (cur ++ l) r := by
  induction h with
  | lit d b =>
    intro o cur r ho
    have hc := consts_ne
    cases b with
    | false => simp only [Bool.false_eq_true, if_false, List.cons_append, List.nil_append, cutW]; rw [if_neg (fun h => hc.2.2.2.2.2.1 h.symm), if_neg (fun h => hc.2.2.2.2.2.2.2.1 h.symm), if_neg (by omega)]
    | true => simp only [if_true, List.cons_append, List.nil_append, cutW]; rw [if_neg (fun h => hc.2.2.2.2.2.2.1 h.symm), if_neg (fun h => hc.2.2.2.2.2.2.2.2.1 h.symm), if_neg (by omega)]
  | nm d w hw =>
    intro o cur r ho
    simp only [List.cons_append, List.nil_append, cutW]
    rw [if_neg (name_ne hw nn_opn), if_neg (name_ne hw nn_cls), if_neg (by omega)]
  | no h ih =>
    intro o cur r ho
    simp only [List.cons_append, cutW]
    rw [if_neg consts_ne.1, if_neg consts_ne.2.1, if_neg (by omega), ih o _ _ ho]
    simp
  | br h ih =>
    intro o cur r ho
    simp only [List.cons_append, cutW, if_true, List.append_assoc]
    rw [ih (o + 1) _ _ (by omega)]
    simp only [List.nil_append, cutW]
    rw [if_neg (fun h => consts_ne.2.2.2.2.1 h.symm), if_pos trivial]
    simp
  | up _ _ ih => exact ih
  | @bin k d l r' e f hk h h' ih ih' =>
    intro o cur r ho
    rw [List.append_assoc, ih o _ _ ho]
    simp only [List.cons_append, cutW]
    rw [if_neg (sg_ne k).2.1, if_neg (sg_ne k).2.2.1, if_neg (by omega), ih' o _ _ ho]
    simp
theorem cutW_top {k d : Nat} {l : List W} {e : Ex} (h : G k d l e) : ∀ (j : Nat) (cur r : List W), j < k → j < 3 → cutW (sg j) 0 cur (l ++ r) = cutW (sg j) 0 (cur ++ l) r := by
  induction h with
  | lit d b =>
    intro j cur r hj hj3
    have hc := consts_ne
    have hs := sg_ne j
    cases b with
    | false => simp only [Bool.false_eq_true, if_false, List.cons_append, List.nil_append, cutW]; rw [if_neg (fun h => hc.2.2.2.2.2.1 h.symm), if_neg (fun h => hc.2.2.2.2.2.2.2.1 h.symm), if_neg (fun h => hs.2.2.2.1 h.1.symm)]
    | true => simp only [if_true, List.cons_append, List.nil_append, cutW]; rw [if_neg (fun h => hc.2.2.2.2.2.2.1 h.symm), if_neg (fun h => hc.2.2.2.2.2.2.2.2.1 h.symm), if_neg (fun h => hs.2.2.2.2 h.1.symm)]
  | nm d w hw =>
    intro j cur r hj hj3
    simp only [List.cons_append, List.nil_append, cutW]
    rw [if_neg (name_ne hw nn_opn), if_neg (name_ne hw nn_cls), if_neg (fun h => name_ne hw (nn_sg j) h.1)]
  | no h ih =>
    intro j cur r hj hj3
    simp only [List.cons_append, cutW]
    rw [if_neg consts_ne.1, if_neg consts_ne.2.1, if_neg (fun h => (sg_ne j).1 h.1.symm), ih j _ _ hj hj3]
    simp
  | br h _ =>
    intro j cur r hj hj3
    simp only [List.cons_append, cutW, if_true, List.append_assoc]
    rw [cutW_deep h _ (0 + 1) _ _ (by omega)]
    simp only [List.nil_append, cutW]
    rw [if_neg (fun h => consts_ne.2.2.2.2.1 h.symm), if_pos trivial]
    simp
  | up _ _ ih =>
    intro j cur r hj hj3
    exact ih j cur r (by omega) hj3
  | @bin k d l r' e f hk h h' ih ih' =>
    intro j cur r hj hj3
    rw [List.append_assoc, ih j _ _ hj hj3]
    simp only [List.cons_append, cutW]
    rw [if_neg (sg_ne k).2.1, if_neg (sg_ne k).2.2.1, if_neg (fun h => by have := sg_inj hk hj3 h.1; omega), ih' j _ _ (by omega) hj3]
    simp
theorem cutW_parts {k d : Nat} (hk : k < 3) {l : List W} {ps : List (List W)} {e : Ex} (h : Parts k d l ps e) : ∃ init last, ps = init ++ [last] ∧ ∀ rest, cutW (sg k) 0 [] (l ++ rest) = init ++ cutW (sg k) 0 last rest := by
  induction h with
  | @one l e h => exact ⟨[], l, rfl, fun rest => by rw [cutW_top h k [] rest (by omega) hk]; rfl⟩
  | @snoc l r ps e f _ h' ih =>
    obtain ⟨init, last, h1, h2⟩ := ih
    refine ⟨init ++ [last], r, by rw [h1], fun rest => ?_⟩
    rw [List.append_assoc, h2]
    simp only [List.cons_append, cutW]
    rw [if_neg (sg_ne k).2.1, if_neg (sg_ne k).2.2.1, if_pos ⟨trivial, trivial⟩, cutW_top h' k [] rest (by omega) hk]
    simp
/-- THE PARTS ARE WHAT THE CUTTING GIVES -/
theorem Parts.cut {k d : Nat} (hk : k < 3) {l : List W} {ps : List (List W)} {e : Ex} (h : Parts k d l ps e) : cutW (sg k) 0 [] l = ps := by
  obtain ⟨init, last, h1, h2⟩ := cutW_parts hk h
  have := h2 []
  rw [List.append_nil] at this
  rw [this, h1]; rfl

def joinT (s : W) : List (List W) → List W
  | [] => []
  | p :: ps => s :: (p ++ joinT s ps)
theorem cutW_join (s : W) : ∀ (l : List W) (o : Int) (cur : List W), ∃ p ps, cutW s o cur l = p :: ps ∧ cur ++ l = p ++ joinT s ps
  | [], o, cur => ⟨cur, [], rfl, by simp [joinT]⟩
  | x :: r, o, cur => by
    unfold cutW
    by_cases h1 : x = opn
    · rw [if_pos h1]
      obtain ⟨p, ps, h2, h3⟩ := cutW_join s r (o + 1) (cur ++ [x])
      exact ⟨p, ps, h2, by rw [← h3]; simp⟩
    · rw [if_neg h1]
      by_cases h2 : x = cls
      · rw [if_pos h2]
        obtain ⟨p, ps, h2, h3⟩ := cutW_join s r (o - 1) (cur ++ [x])
        exact ⟨p, ps, h2, by rw [← h3]; simp⟩
      · rw [if_neg h2]
        by_cases h4 : x = s ∧ o = 0
        · rw [if_pos h4]
          obtain ⟨p, ps, h5, h6⟩ := cutW_join s r 0 []
          exact ⟨cur, p :: ps, by rw [h5], by simp only [joinT]; rw [← h6, h4.1]; simp⟩
        · rw [if_neg h4]
          obtain ⟨p, ps, h2, h3⟩ := cutW_join s r o (cur ++ [x])
          exact ⟨p, ps, h2, by rw [← h3]; simp⟩
theorem parts_grow {k d : Nat} : ∀ (rs : List (List W)) {l : List W} {ps : List (List W)} {e : Ex}, Parts k d l ps e → (∀ r ∈ rs, ∃ f, G (k + 1) d r f) → ∃ e', Parts k d (l ++ joinT (sg k) rs) (ps ++ rs) e'
  | [], l, ps, e, h, _ => ⟨e, by simpa [joinT] using h⟩
  | r :: rs, l, ps, e, h, hr => by
    obtain ⟨f, hf⟩ := hr r (by simp)
    obtain ⟨e', he⟩ := parts_grow rs (h.snoc hf) (fun q hq => hr q (by simp [hq]))
    exact ⟨e', by simpa [joinT] using he⟩
/-- each part is one: then so is the whole -/
theorem parts_all {k d : Nat} {l : List W} (h : ∀ r ∈ cutW (sg k) 0 [] l, ∃ f, G (k + 1) d r f) : ∃ e, Parts k d l (cutW (sg k) 0 [] l) e := by
  obtain ⟨p, ps, h1, h2⟩ := cutW_join (sg k) l 0 []
  rw [h1] at h ⊢
  obtain ⟨f, hf⟩ := h p (by simp)
  obtain ⟨e, he⟩ := parts_grow ps (Parts.one hf) (fun r hr => h r (by simp [hr]))
  rw [List.nil_append] at h2
  rw [h2]
  exact ⟨e, he⟩
theorem parts_mem {k d : Nat} {l : List W} {ps : List (List W)} {e : Ex} (h : Parts k d l ps e) : ∀ r ∈ ps, ∃ f, G (k + 1) d r f := by
  induction h with
  | one h => intro r hr; simp at hr; exact ⟨_, hr ▸ h⟩
  | snoc _ h' ih =>
    intro r hr
    rcases List.mem_append.1 hr with hr | hr
    · exact ih r hr
    · simp at hr; exact ⟨_, hr ▸ h'⟩
/-- WHETHER WORDS ARE AN EXPRESSION, BY THEIR PARTS -/
theorem G_cut {k d : Nat} (hk : k < 3) {l : List W} : (∃ e, G k d l e) ↔ ∀ r ∈ cutW (sg k) 0 [] l, ∃ f, G (k + 1) d r f := by
  constructor
  · rintro ⟨e, h⟩
    obtain ⟨ps, hp⟩ := parts_of hk h
    rw [hp.cut hk]
    exact parts_mem hp
  · intro h
    obtain ⟨e, he⟩ := parts_all h
    exact ⟨e, he.toG hk⟩
theorem parts_snoc_inv {k d : Nat} {l : List W} {ps : List (List W)} {r : List W} {e : Ex} (h : Parts k d l (ps ++ [r]) e) (hne : ps ≠ []) : ∃ l' e' f, Parts k d l' ps e' ∧ G (k + 1) d r f ∧ e = .bin k e' f := by
  generalize hq : ps ++ [r] = qs at h
  cases h with
  | one h =>
    exfalso
    have := congrArg List.length hq
    simp at this
    exact hne this
  | @snoc l1 r1 ps1 e1 f1 h h' =>
    obtain ⟨h1, h2⟩ := List.append_inj' hq rfl
    cases h2
    subst h1
    exact ⟨_, _, _, h, h', rfl⟩
theorem parts_one_inv {k d : Nat} {l r : List W} {e : Ex} (h : Parts k d l [r] e) : l = r ∧ G (k + 1) d r e := by
  generalize hq : [r] = qs at h
  cases h with
  | one h => cases hq; exact ⟨rfl, h⟩
  | @snoc l1 r1 ps1 e1 f1 h h' =>
    exfalso
    have hl := congrArg List.length hq
    simp at hl
    subst hl
    generalize hz : ([] : List (List W)) = z at h
    cases h with
    | one _ => cases hz
    | snoc _ _ => have := congrArg List.length hz; simp at this

/-! ### does the bracket at the beginning close at the end? -/
def dl (x : W) : Int := if x = opn then 1 else if x = cls then -1 else 0
theorem dl_opn : dl opn = 1 := by decide
theorem dl_cls : dl cls = -1 := by decide
theorem dl_bang : dl bang = 0 := by decide
theorem dl_zer : dl zer = 0 := by decide
theorem dl_one : dl one = 0 := by decide
theorem dl_sg (k : Nat) : dl (sg k) = 0 := by unfold dl; rw [if_neg (sg_ne k).2.1, if_neg (sg_ne k).2.2.1]
theorem dl_name {w : W} (h : isName w = true) : dl w = 0 := by unfold dl; rw [if_neg (name_ne h nn_opn), if_neg (name_ne h nn_cls)]
def closedW : Int → List W → Bool
  | _, [] => false
  | o, x :: r => if o + dl x = 0 then r.isEmpty else closedW (o + dl x) r
theorem closedW_flat {x : W} (h : dl x = 0) {o : Int} (ho : 1 ≤ o) (r : List W) : closedW o (x :: r) = closedW o r := by
  simp only [closedW]
  rw [h, if_neg (by omega)]
  congr 1; omega
theorem closedW_deep {k d : Nat} {l : List W} {e : Ex} (h : G k d l e) : ∀ (o : Int) (r : List W), 1 ≤ o → closedW o (l ++ r) = closedW o r := by
  induction h with
  | lit d b =>
    intro o r ho
    exact closedW_flat (by cases b <;> decide) ho r
  | nm d w hw => intro o r ho; exact closedW_flat (dl_name hw) ho r
  | no h ih => intro o r ho; rw [List.cons_append, closedW_flat dl_bang ho, ih o r ho]
  | br h ih =>
    intro o r ho
    simp only [List.cons_append, closedW, dl_opn, List.append_assoc]
    rw [if_neg (by omega), ih (o + 1) _ (by omega)]
    simp only [List.nil_append, closedW, dl_cls]
    rw [if_neg (by omega)]
    congr 1; omega
  | up _ _ ih => exact ih
  | @bin k d l r' e f hk h h' ih ih' =>
    intro o r ho
    rw [List.append_assoc, ih o _ ho, List.cons_append, closedW_flat (dl_sg k) ho, ih' o _ ho]
theorem closedW_last : ∀ (l : List W) (o : Int), 1 ≤ o → closedW o l = true → ∃ m, l = m ++ [cls]
  | [], o, _, h => by simp [closedW] at h
  | x :: r, o, ho, h => by
    unfold closedW at h
    by_cases h3 : o + dl x = 0
    · rw [if_pos h3] at h
      have hr : r = [] := by simpa using h
      have hx : x = cls := by
        by_cases h1 : x = opn
        · rw [h1, dl_opn] at h3; omega
        · by_cases h2 : x = cls
          · exact h2
          · unfold dl at h3; rw [if_neg h1, if_neg h2] at h3; omega
      exact ⟨[], by rw [hr, hx]; rfl⟩
    · rw [if_neg h3] at h
      have hd : -1 ≤ dl x := by unfold dl; split <;> (try split) <;> omega
      obtain ⟨m, hm⟩ := closedW_last r (o + dl x) (by omega) h
      exact ⟨x :: m, by rw [hm]; rfl⟩
theorem closedW_open {l : List W} (h : closedW 0 (opn :: l) = true) : ∃ m, l = m ++ [cls] := by
  unfold closedW at h
  rw [dl_opn, if_neg (by omega)] at h
  exact closedW_last l (0 + 1) (by omega) h
theorem closedW_of {k d : Nat} {l : List W} {e : Ex} (h : G k d l e) : closedW 0 (opn :: (l ++ [cls])) = true := by
  unfold closedW
  rw [dl_opn, if_neg (by omega), closedW_deep h (0 + 1) _ (by omega)]
  unfold closedW
  rw [dl_cls, if_pos (by omega)]
  rfl

/-! ### what no sign parts -/
theorem G3_bang {d : Nat} {l : List W} {e : Ex} : G 3 d (bang :: l) e ↔ ∃ d' f, d = d' + 1 ∧ e = .no f ∧ G 3 d' l f := by
  constructor
  · intro h
    generalize hq : bang :: l = q at h
    generalize hk : 3 = k at h
    cases h with
    | lit d b => cases b <;> simp at hq <;> exact absurd hq.1 (by decide)
    | nm d w hw => cases hq; exact absurd hw (by rw [nn_bang]; decide)
    | no h => cases hq; exact ⟨_, _, rfl, rfl, h⟩
    | br h => simp at hq; exact absurd hq.1 (by decide)
    | up h _ => omega
    | bin h _ _ => omega
  · rintro ⟨d', f, rfl, rfl, h⟩
    exact .no h
theorem G3_open {d : Nat} {l : List W} {e : Ex} : G 3 d (opn :: l) e ↔ ∃ d' m, d = d' + 1 ∧ l = m ++ [cls] ∧ G 0 d' m e := by
  constructor
  · intro h
    generalize hq : opn :: l = q at h
    generalize hk : 3 = k at h
    cases h with
    | lit d b => cases b <;> simp at hq <;> exact absurd hq.1 (by decide)
    | nm d w hw => cases hq; exact absurd hw (by rw [nn_opn]; decide)
    | no h => simp at hq; exact absurd hq.1 (by decide)
    | br h => simp at hq; exact ⟨_, _, rfl, hq, h⟩
    | up h _ => omega
    | bin h _ _ => omega
  · rintro ⟨d', m, rfl, rfl, h⟩
    exact .br h
theorem G3_else {d : Nat} {x : W} {l : List W} {e : Ex} (h1 : x ≠ bang) (h2 : x ≠ opn) : G 3 d (x :: l) e ↔ l = [] ∧ ((x = zer ∧ e = .lit false) ∨ (x = one ∧ e = .lit true) ∨ (isName x = true ∧ e = .nm x)) := by
  constructor
  · intro h
    generalize hq : x :: l = q at h
    generalize hk : 3 = k at h
    cases h with
    | lit d b =>
      cases b with
      | false => simp at hq; exact ⟨hq.2, Or.inl ⟨hq.1, rfl⟩⟩
      | true => simp at hq; exact ⟨hq.2, Or.inr (Or.inl ⟨hq.1, rfl⟩)⟩
    | nm d w hw => cases hq; exact ⟨rfl, Or.inr (Or.inr ⟨hw, rfl⟩)⟩
    | no h => cases hq; exact absurd rfl h1
    | br h => cases hq; exact absurd rfl h2
    | up h _ => omega
    | bin h _ _ => omega
  · rintro ⟨rfl, ⟨rfl, rfl⟩ | ⟨rfl, rfl⟩ | ⟨h, rfl⟩⟩
    · exact G.lit d false
    · exact G.lit d true
    · exact .nm d x h
theorem G_nil {k d : Nat} {e : Ex} (h : G k d [] e) : False := by have := h.pos; simp at this

/-! ### the names -/
def Ex.names : Ex → List W
  | .lit _ => []
  | .nm w => [w]
  | .no e => e.names
  | .bin _ a b => a.names ++ b.names
def Ex.wf : Ex → Prop
  | .lit _ => True
  | .nm w => isName w = true
  | .no e => e.wf
  | .bin k a b => k < 3 ∧ a.wf ∧ b.wf
theorem G.wf {k d : Nat} {l : List W} {e : Ex} (h : G k d l e) : e.wf := by
  induction h with
  | lit => trivial
  | nm d w hw => exact hw
  | no _ ih => exact ih
  | br _ ih => exact ih
  | up _ _ ih => exact ih
  | bin hk _ _ ih ih' => exact ⟨hk, ih, ih'⟩
theorem post_names : ∀ {e : Ex}, e.wf → e.post.filter isName = e.names
  | .lit b, _ => by cases b <;> simp [Ex.post, Ex.names, nn_zer, nn_one]
  | .nm w, h => by have h : isName w = true := h; simp [Ex.post, Ex.names, h]
  | .no e, h => by
    have h : e.wf := h
    simp [Ex.post, Ex.names, nn_bang, post_names h]
  | .bin k a b, h => by
    have h : k < 3 ∧ a.wf ∧ b.wf := h
    simp [Ex.post, Ex.names, nn_sg, post_names h.2.1, post_names h.2.2]
theorem G.filter {k d : Nat} {l : List W} {e : Ex} (h : G k d l e) : l.filter isName = e.names := by
  induction h with
  | lit d b => cases b <;> simp [Ex.names, nn_zer, nn_one]
  | nm d w hw => simp [Ex.names, hw]
  | no _ ih => simp [Ex.names, nn_bang, ih]
  | br _ ih => simp [nn_opn, nn_cls, ih]
  | up _ _ ih => exact ih
  | bin hk _ _ ih ih' => simp [Ex.names, nn_sg, ih, ih']
theorem Ex.ev_congr {v v' : W → Bool} : ∀ {e : Ex}, (∀ x ∈ e.names, v x = v' x) → e.ev v = e.ev v'
  | .lit _, _ => rfl
  | .nm w, h => h w (by simp [Ex.names])
  | .no e, h => by
    have : e.ev v = e.ev v' := Ex.ev_congr (fun x hx => h x hx)
    simp [Ex.ev, this]
  | .bin k a b, h => by
    have h1 : a.ev v = a.ev v' := Ex.ev_congr (fun x hx => h x (by simp [Ex.names, hx]))
    have h2 : b.ev v = b.ev v' := Ex.ev_congr (fun x hx => h x (by simp [Ex.names, hx]))
    simp [Ex.ev, h1, h2]

end Go.Proofs.YtmgjegokkbghlaaGreatDoor.Gram
