/- The document's reader, plainly: what a wrong line is, the judgement by its ways, the lines of a text. The document's lines as a row that grows. The document's circuit, plainly: the bad line, the next lines, where a run begins. A line of the document's in a block of its own. -/
import Derived.Test.YtmgjegokkbghlaaGreatDoorRefCo
namespace Go.Proofs.YtmgjegokkbghlaaGreatDoor
open Go.RowKit Go.Maps Gram Circ
set_option linter.unusedVariables false

theorem nth_at {ls : List Ln} {i : Nat} (h : i < ls.length) : nth ls i = ls[i] := by unfold nth; simp [h]
/-- how many lines ahead of a line say the same -/
def againOf (ls : List Ln) (i : Nat) : Nat := (ls.take i).countP fun a => clash a (nth ls i)
theorem again_pos (ls : List Ln) (i : Nat) : decide (0 < againOf ls i) = twiceAt ls i := by
  unfold againOf twiceAt
  rw [Bool.eq_iff_iff, decide_eq_true_iff, List.countP_pos_iff, List.any_eq_true]
theorem again_le (ls : List Ln) (i : Nat) : againOf ls i ≤ i := by
  unfold againOf
  refine Nat.le_trans List.countP_le_length ?_
  rw [List.length_take]; omega
/-- the ways in which a line is wrong -/
def wrongW (ls : List Ln) (way i : Nat) : Bool := if way = 2 then twiceAt ls i else if way = 3 then manyAt ls i else if way = 4 then nameAt ls i else lackAt ls i
theorem nameAt_ws {ls : List Ln} {i : Nat} (hi : i < ls.length) (h : ∀ x ∈ ls, LnD x) : nameAt ls i = ((ls[i].kind == 3 && !has (named 2 ls) ls[i].name) || ls[i].ws.any fun y => isName y && !has (declared ls) y) := by
  unfold nameAt
  rw [nth_at hi]
  congr 1
  have hd := h _ (List.getElem_mem hi)
  have e : ls[i].ex.names = ls[i].ws.filter isName := by
    by_cases hk : ls[i].kind = 3 ∨ ls[i].kind = 4
    · exact (hd.ex hk).filter.symm
    · obtain ⟨h1, h2⟩ := hd.no hk
      rw [h1, h2]; rfl
  rw [e, List.any_filter]
theorem kind_of {x : Ln} (h : LnD x) : x.kind = 0 ∨ x.kind = 1 ∨ x.kind = 2 ∨ x.kind = 3 ∨ x.kind = 4 := by have := h.kind; omega
def errW (way : Nat) : Nat := if way = 2 then 8 else if way = 3 then 4 else if way = 4 then 9 else 10
theorem judge_at {ls : List Ln} {v i : Nat} (hv : v < 4) (hb : ∀ u, u < v → ∀ j, j < ls.length → wrongW ls (u + 2) j = false) (hi : i < ls.length) (hl : ∀ j, j < i → wrongW ls (v + 2) j = false) (hw : wrongW ls (v + 2) i = true) : judge ls = .err (errW (v + 2)) (i + 1) := by
  have hv4 : v = 0 ∨ v = 1 ∨ v = 2 ∨ v = 3 := by omega
  rcases hv4 with rfl | rfl | rfl | rfl
  · have h1 := firstAt_some (p := twiceAt ls) hi hw hl
    unfold judge; rw [h1]; rfl
  · have h1 := firstAt_none (p := twiceAt ls) (hb 0 (by omega))
    have h2 := firstAt_some (p := manyAt ls) hi hw hl
    unfold judge; rw [h1]; simp only; rw [h2]; rfl
  · have h1 := firstAt_none (p := twiceAt ls) (hb 0 (by omega))
    have h2 := firstAt_none (p := manyAt ls) (hb 1 (by omega))
    have h3 := firstAt_some (p := nameAt ls) hi hw hl
    unfold judge; rw [h1]; simp only; rw [h2]; simp only; rw [h3]; rfl
  · have h1 := firstAt_none (p := twiceAt ls) (hb 0 (by omega))
    have h2 := firstAt_none (p := manyAt ls) (hb 1 (by omega))
    have h3 := firstAt_none (p := nameAt ls) (hb 2 (by omega))
    have h4 := firstAt_some (p := lackAt ls) hi hw hl
    unfold judge; rw [h1]; simp only; rw [h2]; simp only; rw [h3]; simp only; rw [h4]; rfl
theorem judge_end {ls : List Ln} (hb : ∀ u, u < 4 → ∀ j, j < ls.length → wrongW ls (u + 2) j = false) : judge ls = if (named 4 ls).length = 0 then .err 10 0 else .ok ls := by
  have h1 := firstAt_none (p := twiceAt ls) (hb 0 (by omega))
  have h2 := firstAt_none (p := manyAt ls) (hb 1 (by omega))
  have h3 := firstAt_none (p := nameAt ls) (hb 2 (by omega))
  have h4 := firstAt_none (p := lackAt ls) (hb 3 (by omega))
  unfold judge; rw [h1]; simp only; rw [h2]; simp only; rw [h3]; simp only; rw [h4, named_howMany]

/-! ### the lines of a text, as they are cut -/
/-- so far: the pieces that are done; where the next one begins; the place -/
def CutAt (t : List UInt8) (ps : List (List UInt8)) (f i : Nat) : Prop :=
  (i ≤ t.length ∧ f ≤ i ∧ pieces [] t = ps ++ pieces ((t.drop f).take (i - f)) (t.drop i)) ∨ (i = t.length + 1 ∧ f = i ∧ pieces [] t = ps)
theorem CutAt.start (t : List UInt8) : CutAt t [] 0 0 := Or.inl ⟨by omega, by omega, by simp⟩
theorem take_snoc {t : List UInt8} {f i : Nat} (hfi : f ≤ i) (hi : i < t.length) : (t.drop f).take (i + 1 - f) = (t.drop f).take (i - f) ++ [t[i]] := by
  have h1 : i + 1 - f = (i - f) + 1 := by omega
  have h2 : i - f < (t.drop f).length := by rw [List.length_drop]; omega
  rw [h1, List.take_succ_eq_append_getElem h2, List.getElem_drop]
  congr 3
  omega
theorem CutAt.on {t : List UInt8} {ps : List (List UInt8)} {f i : Nat} (h : CutAt t ps f i) (hi : i < t.length) (hc : (t[i] == 10) = false) : CutAt t ps f (i + 1) := by
  rcases h with ⟨h1, h2, h3⟩ | ⟨h1, _⟩
  · refine Or.inl ⟨by omega, by omega, ?_⟩
    rw [h3, List.drop_eq_getElem_cons hi, take_snoc h2 hi]
    congr 1
    rw [pieces, hc]
    rfl
  · omega
theorem CutAt.cut {t : List UInt8} {ps : List (List UInt8)} {f i : Nat} (h : CutAt t ps f i) (hi : i < t.length) (hc : (t[i] == 10) = true) : CutAt t (ps ++ [(t.drop f).take (i - f)]) (i + 1) (i + 1) ∧ ∃ r, pieces [] t = ps ++ (t.drop f).take (i - f) :: r := by
  rcases h with ⟨h1, h2, h3⟩ | ⟨h1, _⟩
  · rw [List.drop_eq_getElem_cons hi, pieces, hc] at h3
    refine ⟨Or.inl ⟨by omega, by omega, ?_⟩, ⟨_, h3⟩⟩
    rw [h3]
    simp
  · omega
theorem CutAt.last {t : List UInt8} {ps : List (List UInt8)} {f i : Nat} (h : CutAt t ps f i) (hi : i = t.length) : CutAt t (ps ++ [(t.drop f).take (i - f)]) (i + 1) (i + 1) ∧ ∃ r, pieces [] t = ps ++ (t.drop f).take (i - f) :: r := by
  rcases h with ⟨h1, h2, h3⟩ | ⟨h1, _⟩
  · rw [show t.drop i = [] from List.drop_of_length_le (by omega)] at h3
    simp only [pieces] at h3
    exact ⟨Or.inr ⟨by omega, rfl, h3⟩, ⟨[], h3⟩⟩
  · omega
theorem CutAt.done {t : List UInt8} {ps : List (List UInt8)} {f i : Nat} (h : CutAt t ps f i) (hi : t.length < i) : pieces [] t = ps := by
  rcases h with ⟨h1, _⟩ | ⟨_, _, h⟩
  · omega
  · exact h
theorem linesOf_snoc {ps : List (List UInt8)} {ls : List Ln} {p : List UInt8} {x : Ln} (h : linesOf ps = some ls) (hx : sayOf p = some x) : linesOf (ps ++ [p]) = some (ls ++ [x]) := by
  rw [linesOf_append, h]
  simp [linesOf, hx]

end Go.Proofs.YtmgjegokkbghlaaGreatDoor

namespace Go.Proofs.YtmgjegokkbghlaaGreatDoor
open Go.RowKit Go.Maps Gram Circ
set_option linter.unusedVariables false

def cellsD (x : Ln) (m : Value) : List Value := [.int .u8 (kb x.kind), .string x.name, .int .u8 (atB x.first), m]
def flatD : List Ln → List Value → List Value
  | x :: ls, m :: ms => cellsD x m ++ flatD ls ms
  | _, _ => []
theorem flatD_snoc : ∀ {ls : List Ln} {ms : List Value}, ms.length = ls.length → ∀ (x : Ln) (m : Value), flatD (ls ++ [x]) (ms ++ [m]) = flatD ls ms ++ cellsD x m
  | [], [], _, x, m => by simp [flatD]
  | y :: ls, n :: ms, h, x, m => by simp at h; simp [flatD, flatD_snoc h]
  | [], _ :: _, h, _, _ => by simp at h
  | _ :: _, [], h, _, _ => by simp at h
theorem flatD_at : ∀ {ls : List Ln} {ms : List Value} (h : ms.length = ls.length) (i : Nat) (hi : i < ls.length) (k : Nat), k < 4 → (flatD ls ms)[i * 4 + k]? = (cellsD ls[i] (ms[i]'(by omega)))[k]?
  | [], [], _, i, hi, _, _ => by simp at hi
  | y :: ls, n :: ms, h, 0, hi, k, hk => by
    show (cellsD y n ++ flatD ls ms)[0 * 4 + k]? = _
    rw [List.getElem?_append_left (by simp [cellsD]; omega)]
    simp
  | y :: ls, n :: ms, h, i + 1, hi, k, hk => by
    have := flatD_at (ls := ls) (ms := ms) (by simpa using h) i (by simpa using hi) k hk
    show (cellsD y n ++ flatD ls ms)[(i + 1) * 4 + k]? = _
    rw [List.getElem?_append_right (by simp [cellsD]; omega)]
    rw [show (i + 1) * 4 + k - (cellsD y n).length = i * 4 + k by simp [cellsD]; omega, this]
    rfl
  | [], _ :: _, h, _, _, _, _ => by simp at h
  | _ :: _, [], h, _, _, _, _ => by simp at h

/-- THE LINES, a row that may grow -/
def LRow (w : World) (base : Nat) (v : Value) (ls : List Ln) (ms : List Value) : Prop :=
  ms.length = ls.length ∧ w.ownsRow base 59 4 v ls.length (flatD ls ms) ∧ (∀ x ∈ ls, LnD x) ∧ ∀ i (hi : i < ls.length), ∃ a n c, ms[i]? = some (.slice a n c) ∧ WS w (.slice a n c) ls[i].ws ∧ ∀ b, (Value.slice a n c).ownBlock = some b → ls[i].ws ≠ [] → b < w.heap.size ∧ v.ownBlock ≠ some b
theorem LRow.nil (w : World) (base : Nat) : LRow w base (.slice none 0 0) [] [] := ⟨rfl, World.ownsRow_nil _ _ _ _, by simp, fun i hi => by simp at hi⟩
theorem LRow.keeps {w w' : World} {base : Nat} {v : Value} {ls : List Ln} {ms : List Value} (h : LRow w base v ls ms) (hk : Keeps [] w w') : LRow w' base v ls ms := by
  obtain ⟨h1, h2, h3, h4⟩ := h
  refine ⟨h1, row_keeps h2 hk (by simp), h3, fun i hi => ?_⟩
  obtain ⟨a, n, c, k1, k2, k3⟩ := h4 i hi
  exact ⟨a, n, c, k1, k2.keeps hk, fun b hb hne => ⟨Nat.lt_of_lt_of_le (k3 b hb hne).1 hk.size, (k3 b hb hne).2⟩⟩
theorem WS.offs {w w' : World} {S : List Nat} {v : Value} {l : List W} (h : WS w v l) (hk : Keeps S w w') (hR : ∀ b, v.ownBlock = some b → l ≠ [] → b ∉ S) : WS w' v l := by
  obtain ⟨a, cap, h1, h2, h3, h4⟩ := h
  refine ⟨a, cap, h1, h2, h3, fun j hj => ?_⟩
  obtain ⟨b, o, k1, k2, k3, k4⟩ := h4 j hj
  have hs := hk.size
  exact ⟨b, o, k1, by omega, by omega, hk.cell k4 (hR b (by rw [h1, k1]; rfl) (fun e => by rw [e] at hj; simp at hj))⟩
/-- one line more -/
theorem LRow.snoc {w w2 w1 : World} {base : Nat} {v v' : Value} {ls : List Ln} {ms : List Value} {x : Ln} {a : Option Addr} {n c : Nat} (h : LRow w base v ls ms) (hd : LnD x) (hx : WS w (.slice a n c) x.ws) (hb : ∀ b, (Value.slice a n c).ownBlock = some b → x.ws ≠ [] → b < w.heap.size ∧ v.ownBlock ≠ some b)
    (hk2 : Keeps [] w w2) (hown : w1.ownsRow base 59 4 v' (ls.length + 1) (flatD ls ms ++ cellsD x (.slice a n c))) (hg : w2.grownBy w1 v.ownBlock) (hloc : v'.ownBlock = v.ownBlock ∨ v'.ownBlock = some w2.heap.size) : LRow w1 base v' (ls ++ [x]) (ms ++ [.slice a n c]) := by
  obtain ⟨h1, h2, h3, h4⟩ := h
  have hkg : Keeps (v.ownBlock.toList) w w1 := (hk2.mono (by simp)).grown hg (fun k e => Or.inl (by simp [e]))
  have hs2 := hk2.size
  have hs1 := hkg.size
  have one : ∀ {a' : Option Addr} {n' c' : Nat} {l : List W}, WS w (.slice a' n' c') l → (∀ b, (Value.slice a' n' c').ownBlock = some b → l ≠ [] → b < w.heap.size ∧ v.ownBlock ≠ some b) → WS w1 (.slice a' n' c') l ∧ ∀ b, (Value.slice a' n' c').ownBlock = some b → l ≠ [] → b < w1.heap.size ∧ v'.ownBlock ≠ some b := by
    intro a' n' c' l hw hb'
    refine ⟨hw.offs hkg (fun b e hne => by have := (hb' b e hne).2; simpa using this), fun b e hne => ⟨Nat.lt_of_lt_of_le (hb' b e hne).1 hs1, fun e2 => ?_⟩⟩
    rcases hloc with e3 | e3
    · exact (hb' b e hne).2 (e3.symm.trans e2)
    · rw [e3] at e2
      have := (hb' b e hne).1
      have := Option.some.inj e2
      omega
  refine ⟨by simp [h1], ?_, fun y hy => ?_, fun i hi => ?_⟩
  · rw [flatD_snoc h1, List.length_append]; exact hown
  · rcases List.mem_append.1 hy with hy | hy
    · exact h3 y hy
    · simp at hy; subst hy; exact hd
  · by_cases e : i < ls.length
    · obtain ⟨a', n', c', k1, k2, k3⟩ := h4 i e
      rw [List.getElem_append_left e]
      refine ⟨a', n', c', ?_, (one k2 k3).1, (one k2 k3).2⟩
      rw [List.getElem?_append_left (by omega)]; exact k1
    · have e' : i = ls.length := by simp at hi; omega
      subst e'
      have e3 : (ls ++ [x])[ls.length]'hi = x := by simp
      rw [e3]
      refine ⟨a, n, c, ?_, (one hx hb).1, (one hx hb).2⟩
      rw [List.getElem?_append_right (by omega)]; simp [h1]
theorem LRow.ld {w : World} {base : Nat} {v : Value} {ls : List Ln} {ms : List Value} (h : LRow w base v ls ms) (h0 : ls ≠ []) (hf : ls.length ≤ 1001) : LD w v ls := by
  obtain ⟨h1, h2, h3, h4⟩ := h
  have hh := h2
  have hpos : 0 < ls.length := List.length_pos_iff.2 h0
  rcases h2.2 with ⟨e0, e1⟩ | ⟨g, cap, cur, hv, hb, hgg, hle, hmx, rest⟩
  · omega
  · subst hv
    refine ⟨g, cap, rfl, hle, (Array.getElem?_eq_some_iff.1 hgg).1, hf, h3, fun i hi => ?_⟩
    obtain ⟨a, n, c, k1, k2, k3⟩ := h4 i hi
    have hm : ms[i]'(by omega) = .slice a n c := by
      have := List.getElem?_eq_getElem (l := ms) (i := i) (by omega)
      rw [k1] at this
      exact (Option.some.inj this).symm
    have at_ : ∀ k, k < 4 → w.cell? ⟨g, i * 4 + k, none⟩ = (cellsD ls[i] (.slice a n c))[k]? := fun k hk => by
      rw [hh.cellAt (i * 4 + k) (by omega), flatD_at h1 i hi k hk, hm]
    exact ⟨a, n, c, at_ 0 (by omega), at_ 1 (by omega), at_ 2 (by omega), at_ 3 (by omega), k2⟩
theorem LRow.slice {w : World} {base : Nat} {v : Value} {ls : List Ln} {ms : List Value} (h : LRow w base v ls ms) : ∃ a cap, v = .slice a ls.length cap ∧ ∀ b, v.ownBlock = some b → b < w.heap.size := by
  rcases h.2.1.2 with ⟨h0, e1⟩ | ⟨g, cap, cur, hv, hb, hgg, rest⟩
  · exact ⟨none, 0, by rw [h0, e1], fun b e => by rw [h0] at e; cases e⟩
  · exact ⟨_, _, hv, fun b e => by rw [hv] at e; cases e; exact (Array.getElem?_eq_some_iff.1 hgg).1⟩
theorem infoLineD : (Tryz.prog.info? 59).map (fun i => (i.zero, i.size, i.bytes)) = some (some (.agg #[.int .u8 0, .string ByteArray.empty, .int .u8 0, .slice none 0 0]), 4, 56) := by kernel_rfl

end Go.Proofs.YtmgjegokkbghlaaGreatDoor

namespace Go.Proofs.YtmgjegokkbghlaaGreatDoor
open Go.RowKit Go.Maps Gram Circ
set_option linter.unusedVariables false

theorem badOf_at {ls : List Ln} {i : Nat} (hi : i < ls.length) (hb : ∀ j (hj : j < ls.length), j < i → ¬ ls[j].kind = 4) (h : ls[i].kind = 4) : badOf ls = ls[i].ex := by
  have : ls.find? (fun x => x.kind == 4) = some ls[i] := by
    rw [List.find?_eq_some_iff_getElem]
    refine ⟨by simpa using h, i, hi, rfl, fun j hj => ?_⟩
    have := hb j (by omega) hj
    simpa using this
  unfold badOf
  rw [this]
theorem badOf_no {ls : List Ln} (hb : ∀ j (hj : j < ls.length), ¬ ls[j].kind = 4) : badOf ls = .lit false := by
  have : ls.find? (fun x => x.kind == 4) = none := by
    rw [List.find?_eq_none]
    intro x hx
    obtain ⟨j, hj, rfl⟩ := List.mem_iff_getElem.1 hx
    simpa using hb j hj
  unfold badOf
  rw [this]
theorem one_of {α : Type} {l : List α} {y : α} (hn : l.Nodup) (hy : y ∈ l) (ha : ∀ x ∈ l, x = y) : l = [y] := by
  match l, hn, hy, ha with
  | [], _, hy, _ => simp at hy
  | [a], _, _, ha => rw [ha a (by simp)]
  | a :: b :: r, hn, _, ha =>
    have h1 := ha a (by simp)
    have h2 := ha b (by simp)
    subst h1
    subst h2
    simp at hn
def isNext (n : W) (x : Ln) : Bool := x.kind == 3 && decide (x.name = n)
theorem next_one {ls : List Ln} (hg : Good ls) {n : W} (hn : n ∈ named 2 ls) : ∃ y ∈ ls, y.kind = 3 ∧ nextOf ls n = y.ex ∧ ls.filter (isNext n) = [y] := by
  obtain ⟨x, hx, rfl⟩ := List.mem_map.1 hn
  obtain ⟨_, y, hy, hk, hyn, he⟩ := next_post hg.twice hg.lack (x := x) hx
  refine ⟨y, hy, hk, he, one_of ?_ ?_ ?_⟩
  · have := claims_nodup hg.twice (isNext x.name) (fun z hz => by
      unfold isNext at hz
      simp at hz
      omega)
    rw [List.nodup_iff_pairwise_ne] at this ⊢
    exact (List.pairwise_map.1 this).imp (fun h e => h (by rw [e]))
  · exact List.mem_filter.2 ⟨hy, by simp [isNext, hk, hyn]⟩
  · intro z hz
    obtain ⟨hz1, hz2⟩ := List.mem_filter.1 hz
    simp [isNext] at hz2
    refine hg.twice.uniq hz1 hy ?_ (by omega) (by omega)
    unfold claimOf
    rw [hz2.1, hk, hz2.2, hyn]
def stepB (ls : List Ln) (v : W → Bool) : List Bool := (named 2 ls).map fun n => (nextOf ls n).ev v
theorem next_ev {ls : List Ln} (hg : Good ls) {n : W} (hn : n ∈ named 2 ls) (v : W → Bool) : (ls.filter (isNext n)).map (fun x => x.ex.ev v) = [(nextOf ls n).ev v] := by
  obtain ⟨y, _, _, h1, h2⟩ := next_one hg hn
  rw [h2, h1]; rfl
theorem next_take {ls : List Ln} {n : W} {i : Nat} (hi : i < ls.length) (v : W → Bool) : ((ls.take (i + 1)).filter (isNext n)).map (fun x => x.ex.ev v) = ((ls.take i).filter (isNext n)).map (fun x => x.ex.ev v) ++ if isNext n ls[i] = true then [ls[i].ex.ev v] else [] := by
  rw [List.take_succ_eq_append_getElem hi, List.filter_append, List.map_append]
  congr 1
  by_cases h : isNext n ls[i] = true
  · rw [if_pos h, List.filter_cons, if_pos h]; rfl
  · rw [if_neg h, List.filter_cons, if_neg h]; rfl
theorem next_few {ls : List Ln} (hg : Good ls) {n : W} (hn : n ∈ named 2 ls) (i : Nat) : ((ls.take i).filter (isNext n)).length ≤ 1 := by
  obtain ⟨y, _, _, _, h2⟩ := next_one hg hn
  have h3 : ls.filter (isNext n) = (ls.take i).filter (isNext n) ++ (ls.drop i).filter (isNext n) := by rw [← List.filter_append, List.take_append_drop]
  have := congrArg List.length h3
  rw [h2, List.length_append] at this
  simp at this
  omega

/-! ### where a run begins -/
def dfl : Ln := ⟨0, emp, emp, [], .lit false⟩
def firstB (ls : List Ln) (ss : List Bool) : Bool := (List.range ss.length).all fun j => mayFirst ((latches ls).getD j dfl).first (ss.getD j false)
theorem first_sys (ls : List Ln) (s : Nat) : (sysOf ls).first s = firstB ls (digs (named 2 ls).length s) := by
  show (List.range _).all _ = (List.range _).all _
  have hl : (digs (named 2 ls).length s).length = (named 2 ls).length := by simp [digs]
  rw [hl, Bool.eq_iff_iff, List.all_eq_true, List.all_eq_true]
  have e : ∀ j ∈ List.range (named 2 ls).length, (digs (named 2 ls).length s).getD j false = dig (named 2 ls).length s j := fun j hj => by
    rw [List.mem_range] at hj
    simp [digs, hj]
  constructor
  · intro h j hj; rw [e j hj]; exact h j hj
  · intro h j hj; have := h j hj; rw [e j hj] at this; exact this
theorem latches_take {ls : List Ln} {i : Nat} (hi : i < ls.length) : latches (ls.take (i + 1)) = latches (ls.take i) ++ if (ls[i].kind == 2) = true then [ls[i]] else [] := by
  unfold latches
  rw [List.take_succ_eq_append_getElem hi, List.filter_append]
  congr 1
  by_cases h : (ls[i].kind == 2) = true
  · rw [if_pos h, List.filter_cons, if_pos h]; rfl
  · rw [if_neg h, List.filter_cons, if_neg h]; rfl
theorem latches_at {ls : List Ln} {i : Nat} (hi : i < ls.length) (hk : ls[i].kind = 2) : ∃ h : (latches (ls.take i)).length < (latches ls).length, (latches ls)[(latches (ls.take i)).length] = ls[i] := by
  have e : latches ls = latches (ls.take i) ++ ls[i] :: latches (ls.drop (i + 1)) := by
    conv => lhs; rw [← List.take_append_drop i ls, List.drop_eq_getElem_cons hi]
    unfold latches
    rw [List.filter_append, List.filter_cons, if_pos (by simp [hk])]
  have hl := congrArg List.length e
  rw [List.length_append, List.length_cons] at hl
  have hlt : (latches (ls.take i)).length < (latches ls).length := by omega
  refine ⟨hlt, ?_⟩
  have h3 : (latches ls)[(latches (ls.take i)).length]? = some ls[i] := by rw [e, List.getElem?_append_right (Nat.le_refl _), Nat.sub_self]; rfl
  rw [List.getElem?_eq_getElem hlt] at h3
  exact Option.some.inj h3
/-- so far no latch stands against it -/
def firstUp (ls : List Ln) (ss : List Bool) (k : Nat) : Prop := ∀ j, j < k → mayFirst ((latches ls).getD j dfl).first (ss.getD j false) = true
theorem firstUp.all {ls : List Ln} {ss : List Bool} (h : firstUp ls ss ss.length) : firstB ls ss = true := by
  unfold firstB
  rw [List.all_eq_true]
  intro j hj
  exact h j (List.mem_range.1 hj)
theorem firstUp.not {ls : List Ln} {ss : List Bool} {k : Nat} (hk : k < ss.length) (h : mayFirst ((latches ls).getD k dfl).first (ss.getD k false) = false) : firstB ls ss = false := by
  unfold firstB
  rw [Bool.eq_false_iff]
  intro h2
  rw [List.all_eq_true] at h2
  have := h2 k (List.mem_range.2 hk)
  rw [h] at this
  cases this
theorem firstUp.succ {ls : List Ln} {ss : List Bool} {k : Nat} (h : firstUp ls ss k) (h2 : mayFirst ((latches ls).getD k dfl).first (ss.getD k false) = true) : firstUp ls ss (k + 1) := by
  intro j hj
  by_cases e : j = k
  · subst e; exact h2
  · exact h j (by omega)

end Go.Proofs.YtmgjegokkbghlaaGreatDoor

namespace Go.Proofs.YtmgjegokkbghlaaGreatDoor
open Go.RowKit Go.Maps Gram Circ
set_option linter.unusedVariables false

/-- a new line in memory -/
structure LnAt (w : World) (B : Nat) (k : Int) (n : W) (f : Int) (m : Value) : Prop where
  c0 : w.cell? ⟨B, 0, none⟩ = some (.int .u8 k)
  c1 : w.cell? ⟨B, 1, none⟩ = some (.string n)
  c2 : w.cell? ⟨B, 2, none⟩ = some (.int .u8 f)
  c3 : w.cell? ⟨B, 3, none⟩ = some m
  f0 : w.frozen? ⟨B, 0, none⟩ = false
  f1 : w.frozen? ⟨B, 1, none⟩ = false
  f2 : w.frozen? ⟨B, 2, none⟩ = false
  f3 : w.frozen? ⟨B, 3, none⟩ = false
theorem LnAt.keeps {w w' : World} {B : Nat} {k : Int} {n : W} {f : Int} {m : Value} {S : List Nat} (h : LnAt w B k n f m) (hk : Keeps S w w') (hB : B ∉ S) : LnAt w' B k n f m :=
  ⟨hk.cell h.c0 hB, hk.cell h.c1 hB, hk.cell h.c2 hB, hk.cell h.c3 hB, (hk.frozen (cell_lt' h.c0) hB).trans h.f0, (hk.frozen (cell_lt' h.c1) hB).trans h.f1, (hk.frozen (cell_lt' h.c2) hB).trans h.f2, (hk.frozen (cell_lt' h.c3) hB).trans h.f3⟩
theorem lnAt_new (w : World) : LnAt (w.alloc (.cells #[.int .u8 0, .string ⟨#[]⟩, .int .u8 0, .slice none 0 0] 59)) w.heap.size 0 ⟨#[]⟩ 0 (.slice none 0 0) :=
  ⟨by simp, by simp, by simp, by simp, by simp, by simp, by simp, by simp⟩
theorem LnAt.set0 {w : World} {B : Nat} {k : Int} {n : W} {f : Int} {m : Value} (h : LnAt w B k n f m) (k' : Int) : LnAt (w.setCell ⟨B, 0, none⟩ (.int .u8 k')) B k' n f m :=
  ⟨cell_set h.c0, (cell_off (by simp)).trans h.c1, (cell_off (by simp)).trans h.c2, (cell_off (by simp)).trans h.c3, (World.frozen?_setCell _ _ _ _).trans h.f0, (World.frozen?_setCell _ _ _ _).trans h.f1, (World.frozen?_setCell _ _ _ _).trans h.f2, (World.frozen?_setCell _ _ _ _).trans h.f3⟩
theorem LnAt.set1 {w : World} {B : Nat} {k : Int} {n : W} {f : Int} {m : Value} (h : LnAt w B k n f m) (n' : W) : LnAt (w.setCell ⟨B, 1, none⟩ (.string n')) B k n' f m :=
  ⟨(cell_off (by simp)).trans h.c0, cell_set h.c1, (cell_off (by simp)).trans h.c2, (cell_off (by simp)).trans h.c3, (World.frozen?_setCell _ _ _ _).trans h.f0, (World.frozen?_setCell _ _ _ _).trans h.f1, (World.frozen?_setCell _ _ _ _).trans h.f2, (World.frozen?_setCell _ _ _ _).trans h.f3⟩
theorem LnAt.set3 {w : World} {B : Nat} {k : Int} {n : W} {f : Int} {m : Value} (h : LnAt w B k n f m) (m' : Value) : LnAt (w.setCell ⟨B, 3, none⟩ m') B k n f m' :=
  ⟨(cell_off (by simp)).trans h.c0, (cell_off (by simp)).trans h.c1, (cell_off (by simp)).trans h.c2, cell_set h.c3, (World.frozen?_setCell _ _ _ _).trans h.f0, (World.frozen?_setCell _ _ _ _).trans h.f1, (World.frozen?_setCell _ _ _ _).trans h.f2, (World.frozen?_setCell _ _ _ _).trans h.f3⟩

theorem LnAt.set2 {w : World} {B : Nat} {k : Int} {n : W} {f : Int} {m : Value} (h : LnAt w B k n f m) (f' : Int) : LnAt (w.setCell ⟨B, 2, none⟩ (.int .u8 f')) B k n f' m :=
  ⟨(cell_off (by simp)).trans h.c0, (cell_off (by simp)).trans h.c1, cell_set h.c2, (cell_off (by simp)).trans h.c3, (World.frozen?_setCell _ _ _ _).trans h.f0, (World.frozen?_setCell _ _ _ _).trans h.f1, (World.frozen?_setCell _ _ _ _).trans h.f2, (World.frozen?_setCell _ _ _ _).trans h.f3⟩
def lineBox (w : World) (t : Int) (nm : W) (f : Int) (m : Value) : World := w.alloc (.cells #[.int .u8 t, .string nm, .int .u8 f, m] 59)
theorem lineBox_keeps (w : World) (t : Int) (nm : W) (f : Int) (m : Value) : Keeps [] w (lineBox w t nm f m) := (Keeps.refl [] w).alloc _
theorem lineBox_cells (w : World) (t : Int) (nm : W) (f : Int) (m : Value) : (lineBox w t nm f m).cell? ⟨w.heap.size, 0, none⟩ = some (.int .u8 t) ∧ (lineBox w t nm f m).cell? ⟨w.heap.size, 1, none⟩ = some (.string nm) ∧ (lineBox w t nm f m).cell? ⟨w.heap.size, 2, none⟩ = some (.int .u8 f) ∧ (lineBox w t nm f m).cell? ⟨w.heap.size, 3, none⟩ = some m := by
  unfold lineBox
  exact ⟨by simp, by simp, by simp, by simp⟩

end Go.Proofs.YtmgjegokkbghlaaGreatDoor
