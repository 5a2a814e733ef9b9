/- The walk of Read. -/
import Derived.Test.YtmgjegokkbghlaaGreatDoorGatherC
namespace Go.Proofs.YtmgjegokkbghlaaGreatDoor
open Go.RowKit Go.Maps Gram Circ
set_option linter.unusedVariables false

/-! ### what lines that were read keep to -/
theorem wordsOf_len : ∀ (n : Nat) (l : List UInt8) (ws : List W), l.length ≤ n → wordsOf l = some ws → ws.length ≤ l.length
  | 0, l, ws, hn, h => by
    have : l = [] := List.length_eq_zero_iff.1 (by omega)
    subst this
    rw [wordsOf_nil] at h
    cases h
    simp
  | n + 1, [], ws, hn, h => by
    rw [wordsOf_nil] at h
    cases h
    simp
  | n + 1, c :: r, ws, hn, h => by
    simp only [List.length_cons] at hn
    by_cases h32 : c = 32
    · subst h32
      rw [wordsOf_blank] at h
      have := wordsOf_len n r ws (by omega) h
      simp only [List.length_cons]
      omega
    · rw [wordsOf_ahead h32] at h
      split at h
      · have ha := ahead_len (l := c :: r) (by simp)
        cases hw : wordsOf ((c :: r).drop (aheadL (c :: r)).length) with
        | none => rw [hw] at h; simp at h
        | some ws' =>
          rw [hw] at h
          simp only [Option.map_some, Option.some.injEq] at h
          have := wordsOf_len n _ ws' (by simp only [List.length_drop, List.length_cons]; omega) hw
          rw [← h]
          simp only [List.length_cons, List.length_drop] at this ⊢
          omega
      · simp at h
theorem post_len {k d : Nat} {l : List W} {e : Ex} (h : G k d l e) : e.post.length ≤ l.length := by
  induction h with
  | lit d b => simp [Ex.post]
  | nm d w hw => simp [Ex.post]
  | no _ ih => simp [Ex.post]; omega
  | br _ ih => simp; omega
  | up _ _ ih => exact ih
  | bin hk _ _ ih ih' => simp [Ex.post]; omega
theorem name_pos {w : W} (h : isName w = true) : 0 < ByteArray.size w := by
  obtain ⟨b, r, e, _⟩ := isName_head h
  have : w.data.toList.length = r.length + 1 := by rw [e]; simp
  have h2 : ByteArray.size w = w.data.toList.length := by rw [Array.length_toList]; rfl
  omega
theorem name_le {w : W} (h : isName w = true) : ByteArray.size w ≤ 8 := by
  have h0 := name_pos h
  rw [isName_bl w h0] at h
  simp at h
  exact h.2
theorem sg_pos (k : Nat) : 0 < ByteArray.size (sg k) := by
  unfold sg
  split <;> decide
theorem post_pos : ∀ {e : Ex}, e.wf → ∀ y ∈ e.post, 0 < ByteArray.size y
  | .lit b, _, y, hy => by cases b <;> simp [Ex.post] at hy <;> subst hy <;> decide
  | .nm w, h, y, hy => by
    simp [Ex.post] at hy
    subst hy
    exact name_pos h
  | .no e, h, y, hy => by
    simp [Ex.post] at hy
    rcases hy with hy | rfl
    · exact post_pos (e := e) h y hy
    · decide
  | .bin k a b, h, y, hy => by
    have h : k < 3 ∧ a.wf ∧ b.wf := h
    simp [Ex.post] at hy
    rcases hy with hy | hy | rfl
    · exact post_pos h.2.1 y hy
    · exact post_pos h.2.2 y hy
    · exact sg_pos k

/-- a line that was read -/
structure LnOk (x : Ln) (n : Nat) : Prop where
  kind : x.kind ≤ 4
  name : ByteArray.size x.name ≤ 8
  bad : x.kind = 4 → x.name = emp
  wf : x.ex.wf
  none : ¬ (x.kind = 3 ∨ x.kind = 4) → x.ex = .lit false
  len : x.ex.post.length ≤ n + 1
theorem LnOk.post {x : Ln} {n : Nat} (h : LnOk x n) : (lnPost x).length ≤ n + 1 ∧ (∀ y ∈ lnPost x, 0 < ByteArray.size y) ∧ (lnPost x).filter isName = x.ex.names := by
  unfold lnPost
  split
  · exact ⟨h.len, post_pos h.wf, post_names h.wf⟩
  · rename_i hk
    rw [h.none hk]
    simp [Ex.names]
theorem lineOf_ok {ws : List W} {x : Ln} (h : lineOf ws = some x) : LnOk x ws.length := by
  have hl : ByteArray.size emp ≤ 8 := by decide
  cases ws with
  | nil =>
    simp only [lineOf, Option.some.injEq] at h
    subst h
    exact ⟨by simp, hl, by simp, trivial, fun _ => rfl, by simp [Ex.post]⟩
  | cons y r =>
    rw [lineOf_cons] at h
    split at h
    · unfold inputOf at h
      split at h
      · split at h
        · rename_i n hn
          cases h
          exact ⟨by simp, name_le hn, by simp, trivial, fun _ => rfl, by simp [Ex.post]⟩
        · simp at h
      · simp at h
    · split at h
      · unfold latchOf at h
        split at h
        · split at h
          · rename_i n f hn
            cases h
            simp only [Bool.and_eq_true] at hn
            exact ⟨by simp, name_le hn.1, by simp, trivial, fun _ => rfl, by simp [Ex.post]⟩
          · simp at h
        · simp at h
      · split at h
        · unfold nextOfW at h
          split at h
          · split at h
            · rename_i n q e hn
              cases hp : parseW e with
              | none => rw [hp] at h; simp at h
              | some ex =>
                rw [hp] at h
                simp only [Option.map_some, Option.some.injEq] at h
                subst h
                simp only [Bool.and_eq_true] at hn
                have hg := parseW_iff.1 hp
                have := post_len hg
                exact ⟨by simp, name_le hn.1, by simp, hg.wf, fun hh => absurd (Or.inl rfl) hh, by simp; omega⟩
            · simp at h
          · simp at h
        · split at h
          · unfold badOfW at h
            split at h
            · split at h
              · rename_i q e hn
                cases hp : parseW e with
                | none => rw [hp] at h; simp at h
                | some ex =>
                  rw [hp] at h
                  simp only [Option.map_some, Option.some.injEq] at h
                  subst h
                  have hg := parseW_iff.1 hp
                  have := post_len hg
                  exact ⟨by simp, hl, fun _ => rfl, hg.wf, fun hh => absurd (Or.inr rfl) hh, by simp; omega⟩
              · simp at h
            · simp at h
          · simp at h
theorem sayOf_ok {l : List UInt8} {x : Ln} (h : sayOf l = some x) : LnOk x l.length := by
  unfold sayOf at h
  split at h
  · simp at h
  · rename_i ws hw
    have h1 := lineOf_ok h
    have h2 := wordsOf_len l.length l ws (Nat.le_refl _) hw
    exact ⟨h1.kind, h1.name, h1.bad, h1.wf, h1.none, by have := h1.len; omega⟩
theorem pieces_len : ∀ (t cur : List UInt8), ∀ p ∈ pieces cur t, p.length ≤ cur.length + t.length
  | [], cur, p, hp => by simp [pieces] at hp; subst hp; simp
  | c :: r, cur, p, hp => by
    simp only [pieces] at hp
    split at hp
    · rcases List.mem_cons.1 hp with rfl | hp
      · simp
      · have := pieces_len r [] p hp
        simp at this ⊢
        omega
    · have := pieces_len r (cur ++ [c]) p hp
      simp at this ⊢
      omega
theorem pieces_ne : ∀ (t cur : List UInt8), pieces cur t ≠ []
  | [], cur => by simp [pieces]
  | c :: r, cur => by
    simp only [pieces]
    split
    · simp
    · exact pieces_ne r _
theorem linesOf_ok : ∀ {ps : List (List UInt8)} {ls : List Ln}, linesOf ps = some ls → ls.length = ps.length ∧ ∀ x ∈ ls, ∃ p ∈ ps, sayOf p = some x
  | [], ls, h => by simp [linesOf] at h; subst h; simp
  | p :: ps, ls, h => by
    simp only [linesOf] at h
    split at h
    · simp at h
    · rename_i x hx
      cases hl : linesOf ps with
      | none => rw [hl] at h; simp at h
      | some ls' =>
        rw [hl] at h
        simp only [Option.map_some, Option.some.injEq] at h
        subst h
        obtain ⟨h1, h2⟩ := linesOf_ok hl
        refine ⟨by simp [h1], fun y hy => ?_⟩
        rcases List.mem_cons.1 hy with rfl | hy
        · exact ⟨p, by simp, hx⟩
        · obtain ⟨q, hq, e⟩ := h2 y hy
          exact ⟨q, by simp [hq], e⟩
theorem lines_ok {t : List UInt8} {ls : List Ln} (ht : t.length ≤ 1000) (h : linesOf (pieces [] t) = some ls) : 0 < ls.length ∧ ∀ x ∈ ls, LnOk x 1000 := by
  obtain ⟨h1, h2⟩ := linesOf_ok h
  refine ⟨?_, fun x hx => ?_⟩
  · rw [h1]
    exact List.length_pos_iff.2 (pieces_ne t [])
  · obtain ⟨p, hp, e⟩ := h2 x hx
    have hl := pieces_len t [] p hp
    have ho := sayOf_ok e
    simp at hl
    exact ⟨ho.kind, ho.name, ho.bad, ho.wf, ho.none, by have := ho.len; omega⟩

/-! ### lines of which no two say the same -/
def NoTwice (ls : List Ln) : Prop := ∀ i, i < ls.length → twiceAt ls i = false
theorem NoTwice.uniq {ls : List Ln} (h : NoTwice ls) {x y : Ln} (hx : x ∈ ls) (hy : y ∈ ls) (hc : claimOf x = claimOf y) (h0 : x.kind ≠ 0) (h1 : y.kind ≠ 0) : x = y := by
  obtain ⟨i, hi, rfl⟩ := List.mem_iff_getElem.1 hx
  obtain ⟨k, hk, rfl⟩ := List.mem_iff_getElem.1 hy
  have key : ∀ {i k : Nat} (hi : i < ls.length) (hk : k < ls.length), i < k → claimOf ls[i] = claimOf ls[k] → ls[k].kind ≠ 0 → False := by
    intro i k hi hk hik hc h1
    have := (twiceAt_iff hk).2 ⟨List.mem_map.2 ⟨ls[i], ?_, hc⟩, h1⟩
    · rw [h k hk] at this
      cases this
    · exact List.mem_take_iff_getElem.2 ⟨i, by omega, rfl⟩
  rcases Nat.lt_trichotomy i k with hl | rfl | hl
  · exact (key hi hk hl hc h1).elim
  · rfl
  · exact (key hk hi hl hc.symm h0).elim
theorem kind_fold (n : W) : ∀ (ls : List Ln) (k0 : Nat), (∃ x ∈ ls, decl x = true ∧ x.name = n ∧ ls.foldl (fun k x => if decl x = true ∧ x.name = n then x.kind else k) k0 = x.kind) ∨ ((∀ x ∈ ls, ¬ (decl x = true ∧ x.name = n)) ∧ ls.foldl (fun k x => if decl x = true ∧ x.name = n then x.kind else k) k0 = k0)
  | [], k0 => Or.inr ⟨by simp, rfl⟩
  | x :: ls, k0 => by
    rw [List.foldl_cons]
    rcases kind_fold n ls (if decl x = true ∧ x.name = n then x.kind else k0) with ⟨y, hy, h1, h2, h3⟩ | ⟨h1, h2⟩
    · exact Or.inl ⟨y, by simp [hy], h1, h2, h3⟩
    · by_cases h : decl x = true ∧ x.name = n
      · exact Or.inl ⟨x, by simp, h.1, h.2, by rw [h2, if_pos h]⟩
      · refine Or.inr ⟨fun y hy => ?_, by rw [h2, if_neg h]⟩
        rcases List.mem_cons.1 hy with rfl | hy
        · exact h
        · exact h1 y hy
theorem kindOf_zero (ls : List Ln) (n : W) : (kindOf ls n == 0) = !has (declared ls) n := by
  rw [Bool.eq_iff_iff]
  simp only [beq_iff_eq, Bool.not_eq_true', ← Bool.not_eq_true, has_iff]
  unfold declared
  simp only [List.mem_map, List.mem_filter, not_exists, not_and]
  rcases kind_fold n ls 0 with ⟨x, hx, h1, h2, h3⟩ | ⟨h1, h2⟩
  · constructor
    · intro h
      have : kindOf ls n = x.kind := h3
      have := (decl_iff x).1 h1
      omega
    · intro h
      exact absurd h2 (h x ⟨hx, h1⟩)
  · constructor
    · intro _ x hx e
      exact h1 x hx.1 ⟨hx.2, e⟩
    · intro _
      exact h2
theorem kindOf_two {ls : List Ln} (hn : NoTwice ls) (n : W) : (kindOf ls n != 2) = !has (named 2 ls) n := by
  rw [Bool.eq_iff_iff]
  simp only [bne_iff_ne, Bool.not_eq_true', ← Bool.not_eq_true, has_iff]
  unfold named
  simp only [List.mem_map, List.mem_filter, beq_iff_eq, not_exists, not_and]
  rcases kind_fold n ls 0 with ⟨x, hx, h1, h2, h3⟩ | ⟨h1, h2⟩
  · have e : kindOf ls n = x.kind := h3
    constructor
    · intro h y hy ey
      have hdx := (decl_iff x).1 h1
      have : x = y := hn.uniq hx hy.1 (by unfold claimOf; rw [h2, ey, hy.2]; rcases hdx with e1 | e1 <;> simp [e1]) (by omega) (by omega)
      subst this
      omega
    · intro h h2'
      exact absurd h2 (h x ⟨hx, by omega⟩)
  · have e : kindOf ls n = 0 := h2
    constructor
    · intro _ y hy ey
      exact h1 y hy.1 ⟨(decl_iff y).2 (Or.inr hy.2), ey⟩
    · intro _
      omega
theorem any_congr {α : Type} {f g : α → Bool} {l : List α} (h : ∀ x ∈ l, f x = g x) : l.any f = l.any g := by
  induction l with
  | nil => rfl
  | cons x l ih => rw [List.any_cons, List.any_cons, h x (by simp), ih (fun y hy => h y (by simp [hy]))]
theorem unk_name {ls : List Ln} (hn : NoTwice ls) (hok : ∀ x ∈ ls, LnOk x 1000) {i : Nat} (hi : i < ls.length) : unkAt ls i = nameAt ls i := by
  unfold unkAt nameAt
  rw [nth_eq hi, kindOf_two hn, (hok _ (List.getElem_mem hi)).post.2.2]
  congr 1
  exact any_congr fun x _ => kindOf_zero ls x
theorem firstAt_congr {p q : Nat → Bool} {n : Nat} (h : ∀ i, i < n → p i = q i) : firstAt p n = firstAt q n := by
  unfold firstAt
  exact find_congr fun i hi => h i (by simpa using hi)
theorem firstAt_none_iff {p : Nat → Bool} {n : Nat} (h : firstAt p n = none) : ∀ i, i < n → p i = false := by
  unfold firstAt at h
  rw [List.find?_eq_none] at h
  intro i hi
  have := h i (by simpa using hi)
  simpa using this
theorem next_post {ls : List Ln} (hn : NoTwice ls) (hl : ∀ i, i < ls.length → lackAt ls i = false) {x : Ln} (hx : x ∈ latches ls) : nextPost ls x.name = (nextOf ls x.name).post ∧ ∃ y ∈ ls, y.kind = 3 ∧ y.name = x.name ∧ nextOf ls x.name = y.ex := by
  obtain ⟨hm, hk⟩ := List.mem_filter.1 hx
  have hk2 : x.kind = 2 := by simpa using hk
  obtain ⟨i, hi, rfl⟩ := List.mem_iff_getElem.1 hm
  have hla := hl i hi
  have hin : ∃ y ∈ ls, y.kind = 3 ∧ y.name = ls[i].name := by
    unfold lackAt at hla
    rw [nth_eq hi, hk2] at hla
    simp only [beq_self_eq_true, Bool.true_and, Bool.not_eq_false'] at hla
    rw [has_iff] at hla
    unfold named at hla
    obtain ⟨y, hy, e⟩ := List.mem_map.1 hla
    obtain ⟨hy1, hy2⟩ := List.mem_filter.1 hy
    exact ⟨y, hy1, by simpa using hy2, e⟩
  obtain ⟨y, hy, y3, yn⟩ := hin
  have hu : ∀ z ∈ ls, z.kind = 3 → z.name = ls[i].name → z = y := fun z hz z3 zn => hn.uniq hz hy (by unfold claimOf; rw [zn, yn, z3, y3]) (by omega) (by omega)
  have h1 : nextOf ls ls[i].name = y.ex := by
    unfold nextOf
    cases hf : ls.find? (fun x => x.kind == 3 && decide (x.name = ls[i].name)) with
    | none =>
      have := List.find?_eq_none.1 hf y hy
      simp [y3, yn] at this
    | some z =>
      have hz := List.mem_of_find?_eq_some hf
      have hp := List.find?_some hf
      simp only [Bool.and_eq_true, beq_iff_eq, decide_eq_true_eq] at hp
      rw [hu z hz hp.1 hp.2]
  have h2 : nextPost ls ls[i].name = y.ex.post := by
    unfold nextPost
    cases hf : lastIdx ls ls[i].name with
    | none =>
      unfold lastIdx at hf
      obtain ⟨k, hk', rfl⟩ := List.mem_iff_getElem.1 hy
      have := List.find?_eq_none.1 hf k (by simpa using hk')
      rw [nth_eq hk'] at this
      simp [y3, yn] at this
    | some k =>
      unfold lastIdx at hf
      have hkm : k < ls.length := by simpa using List.mem_of_find?_eq_some hf
      have hp := List.find?_some hf
      rw [nth_eq hkm] at hp
      simp only [Bool.and_eq_true, beq_iff_eq, decide_eq_true_eq] at hp
      rw [Option.getD_some, nth_eq hkm, hu _ (List.getElem_mem hkm) hp.1 hp.2]
      unfold lnPost
      rw [if_pos (Or.inl y3)]
  exact ⟨by rw [h1, h2], y, hy, y3, yn, h1⟩
theorem bad_fold : ∀ (ls : List Ln) (k0 : List W), (∃ x ∈ ls, x.kind = 4 ∧ ls.foldl (fun k x => if x.kind = 4 then lnPost x else k) k0 = lnPost x) ∨ ((∀ x ∈ ls, ¬ x.kind = 4) ∧ ls.foldl (fun k x => if x.kind = 4 then lnPost x else k) k0 = k0)
  | [], k0 => Or.inr ⟨by simp, rfl⟩
  | x :: ls, k0 => by
    rw [List.foldl_cons]
    rcases bad_fold ls (if x.kind = 4 then lnPost x else k0) with ⟨y, hy, h1, h2⟩ | ⟨h1, h2⟩
    · exact Or.inl ⟨y, by simp [hy], h1, h2⟩
    · by_cases h : x.kind = 4
      · exact Or.inl ⟨x, by simp, h, by rw [h2, if_pos h]⟩
      · refine Or.inr ⟨fun y hy => ?_, by rw [h2, if_neg h]⟩
        rcases List.mem_cons.1 hy with rfl | hy
        · exact h
        · exact h1 y hy
theorem bad_post {ls : List Ln} (hn : NoTwice ls) (hok : ∀ x ∈ ls, LnOk x 1000) (h4 : ¬ howMany 4 ls = 0) : badPost ls = (badOf ls).post ∧ ∃ y ∈ ls, y.kind = 4 ∧ badOf ls = y.ex := by
  have hin : ∃ y ∈ ls, y.kind = 4 := by
    have : 0 < howMany 4 ls := by omega
    unfold howMany at this
    rw [List.countP_pos_iff] at this
    obtain ⟨y, hy, e⟩ := this
    exact ⟨y, hy, by simpa using e⟩
  obtain ⟨y, hy, y4⟩ := hin
  have hu : ∀ z ∈ ls, z.kind = 4 → z = y := fun z hz z4 => hn.uniq hz hy (by unfold claimOf; rw [(hok z hz).bad z4, (hok y hy).bad y4, z4, y4]) (by omega) (by omega)
  have h1 : badOf ls = y.ex := by
    unfold badOf
    cases hf : ls.find? (fun x => x.kind == 4) with
    | none =>
      have := List.find?_eq_none.1 hf y hy
      simp [y4] at this
    | some z =>
      have hz := List.mem_of_find?_eq_some hf
      have hp := List.find?_some hf
      rw [hu z hz (by simpa using hp)]
  refine ⟨?_, y, hy, y4, h1⟩
  rcases bad_fold ls [] with ⟨x, hx, x4, e⟩ | ⟨h, _⟩
  · have e : badPost ls = lnPost x := e
    rw [e, hu x hx x4, h1]
    unfold lnPost
    rw [if_pos (Or.inr y4)]
  · exact absurd y4 (h y hy)

theorem flatL_at : ∀ {ls : List Ln} {ms : List Value}, ms.length = ls.length → ∀ {i : Nat} (hi : i < ls.length) {m : Value}, ms[i]? = some m → (flatL ls ms)[i * 4]? = some (.int .i64 (ls[i].kind : Int)) ∧ (flatL ls ms)[i * 4 + 1]? = some (.string ls[i].name) ∧ (flatL ls ms)[i * 4 + 2]? = some (.string ls[i].first) ∧ (flatL ls ms)[i * 4 + 3]? = some m
  | [], _, _, i, hi, _, _ => by simp at hi
  | y :: ls, [], h, _, _, _, _ => by simp at h
  | y :: ls, n :: ms, h, 0, hi, m, hm => by
    simp at hm
    subst hm
    simp [flatL, lineCells]
  | y :: ls, n :: ms, h, i + 1, hi, m, hm => by
    have := flatL_at (ls := ls) (ms := ms) (by simpa using h) (i := i) (by simpa using hi) (m := m) (by simpa using hm)
    rw [show (i + 1) * 4 = i * 4 + 4 by omega]
    simpa [flatL, lineCells] using this
/-- lines in memory, as the walks behind want them -/
theorem LinesAt.lv {w : World} {base : Nat} {v : Value} {ls : List Ln} (h : LinesAt w base v ls) (h0 : 0 < ls.length) (hl : ls.length ≤ 1001) (hok : ∀ x ∈ ls, LnOk x 1000) : LV w v ls := by
  obtain ⟨ms, hms, hrow, hp⟩ := h
  have hh := hrow
  rcases hrow.2 with ⟨_, hz⟩ | ⟨g, cap, cur, hv, hb, hgg, hle, hmx, hcs, htake⟩
  · omega
  · subst hv
    refine ⟨g, cap, rfl, hle, (Array.getElem?_eq_some_iff.1 hgg).1, hl, fun x hx => ⟨(hok x hx).kind, by have := (hok x hx).name; omega, by have := (hok x hx).post.1; omega⟩, fun i hi => ?_⟩
    obtain ⟨a, n, c, hm, hw⟩ := hp i hi
    have hat := flatL_at hms hi hm
    have hc : ∀ j, j < ls.length * 4 → w.cell? ⟨g, j, none⟩ = (flatL ls ms)[j]? := fun j hj => hh.cellAt j hj
    exact ⟨a, n, c, by rw [hc _ (by omega)]; exact hat.1, by rw [hc _ (by omega)]; exact hat.2.1, by rw [hc _ (by omega)]; exact hat.2.2.1, by rw [hc _ (by omega)]; exact hat.2.2.2, hw.ws⟩

def boxed3 (w : World) (R : Nat) (v0 v1 v2 : Value) : World := ((w.setCell ⟨R, 0, none⟩ v0).setCell ⟨R, 1, none⟩ v1).setCell ⟨R, 2, none⟩ v2
theorem box_cell {w : World} {R : Nat} (v0 v1 v2 : Value) {p : Addr} {u : Value} (h : w.cell? p = some u) (h0 : p ≠ ⟨R, 0, none⟩) (h1 : p ≠ ⟨R, 1, none⟩) (h2 : p ≠ ⟨R, 2, none⟩) : (boxed3 w R v0 v1 v2).cell? p = some u := by
  unfold boxed3
  rw [cell_off h2, cell_off h1, cell_off h0, h]
theorem box_size {w : World} {R : Nat} (v0 v1 v2 : Value) : (boxed3 w R v0 v1 v2).heap.size = w.heap.size := by simp [boxed3]
theorem box_str {w : World} {R : Nat} (hb : Blank w R) (v0 v1 v2 : Value) {p : Addr} {x : ByteArray} (h : w.cell? p = some (.string x)) : (boxed3 w R v0 v1 v2).cell? p = some (.string x) := by
  refine box_cell v0 v1 v2 h ?_ ?_ ?_
  · rintro rfl; rw [hb.c0] at h; simp at h
  · rintro rfl; rw [hb.c1] at h; simp at h
  · rintro rfl; rw [hb.c2] at h; simp at h
theorem WS.box {w : World} {R : Nat} {v : Value} {l : List W} (h : WS w v l) (hb : Blank w R) (v0 v1 v2 : Value) : WS (boxed3 w R v0 v1 v2) v l := by
  obtain ⟨a, cap, h1, h2, h3, h4⟩ := h
  refine ⟨a, cap, h1, h2, h3, fun j hj => ?_⟩
  obtain ⟨b, o, k1, k2, k3, k4⟩ := h4 j hj
  exact ⟨b, o, k1, by rw [box_size]; exact k2, by rw [box_size]; exact k3, box_str hb v0 v1 v2 k4⟩
theorem CirAt.box {w : World} {ls : List Ln} {vi : Value} {a1 : Option Addr} {vb : Value} {R : Nat} (h : CirAt w ls vi a1 vb) (hb : Blank w R) (v0 v1 v2 : Value) : CirAt (boxed3 w R v0 v1 v2) ls vi a1 vb := by
  refine ⟨h.ins.box hb v0 v1 v2, fun k hk => ?_, h.bad.box hb v0 v1 v2⟩
  obtain ⟨b, a, n, c, e, g1, g2, g3, g4, g5⟩ := h.lat k hk
  refine ⟨b, a, n, c, e, by rw [box_size]; exact g1, box_str hb v0 v1 v2 g2, box_str hb v0 v1 v2 g3, box_cell v0 v1 v2 g4 ?_ ?_ ?_, g5.box hb v0 v1 v2⟩
  · intro e; simp at e <;> omega
  · intro e; simp at e <;> omega
  · intro e
    simp at e
    obtain ⟨rfl, rfl⟩ : b = R ∧ k = 0 := ⟨e.1, by omega⟩
    have g2' := g2
    rw [Nat.zero_mul, hb.c0] at g2'
    simp at g2'
/-! ### what is told, fault by fault -/
theorem judge_twice {ls : List Ln} {i : Nat} (h : firstAt (twiceAt ls) ls.length = some i) : judge ls = .err 8 (i + 1) := by unfold judge; rw [h]
theorem judge_many {ls : List Ln} {i : Nat} (h1 : firstAt (twiceAt ls) ls.length = none) (h : firstAt (manyAt ls) ls.length = some i) : judge ls = .err 4 (i + 1) := by unfold judge; rw [h1]; simp only; rw [h]
theorem judge_name {ls : List Ln} {i : Nat} (h1 : firstAt (twiceAt ls) ls.length = none) (h2 : firstAt (manyAt ls) ls.length = none) (h : firstAt (nameAt ls) ls.length = some i) : judge ls = .err 9 (i + 1) := by unfold judge; rw [h1]; simp only; rw [h2]; simp only; rw [h]
theorem judge_miss {ls : List Ln} (h1 : firstAt (twiceAt ls) ls.length = none) (h2 : firstAt (manyAt ls) ls.length = none) (h3 : firstAt (nameAt ls) ls.length = none) (h : (missOf ls).2 = true) : judge ls = .err 10 (missOf ls).1 := by
  unfold judge; rw [h1]; simp only; rw [h2]; simp only; rw [h3]; simp only
  unfold missOf at h ⊢
  cases hl : firstAt (lackAt ls) ls.length with
  | some i => rfl
  | none =>
    rw [hl] at h
    simp only [decide_eq_true_eq] at h
    simp [h]
theorem judge_ok {ls : List Ln} (h1 : firstAt (twiceAt ls) ls.length = none) (h2 : firstAt (manyAt ls) ls.length = none) (h3 : firstAt (nameAt ls) ls.length = none) (h : (missOf ls).2 = false) : judge ls = .ok ls := by
  unfold judge; rw [h1]; simp only; rw [h2]; simp only; rw [h3]; simp only
  unfold missOf at h
  cases hl : firstAt (lackAt ls) ls.length with
  | some i => rw [hl] at h; simp at h
  | none =>
    rw [hl] at h
    simp only [decide_eq_false_iff_not] at h
    simp [h]

def CReadIs (t : List UInt8) (e : Ending) (w' : World) : Prop := match readP t with
  | .err k line => e = .returned (.tuple #[.agg #[.slice none 0 0, .slice none 0 0, .slice none 0 0], .int .i64 (k : Int), .int .i64 (line : Int)])
  | .ok ls => ∃ a0 n0 m0 a1 m1 a2 n2 m2, e = .returned (.tuple #[.agg #[.slice a0 n0 m0, .slice a1 (latches ls).length m1, .slice a2 n2 m2], .int .i64 0, .int .i64 0]) ∧ CirAt w' ls (.slice a0 n0 m0) a1 (.slice a2 n2 m2)
theorem creadIs_err {t : List UInt8} {k line : Nat} {w' : World} (h : readP t = .err k line) {a b : Int} (ha : a = k) (hb : b = line) : CReadIs t (.returned (.tuple #[.agg #[.slice none 0 0, .slice none 0 0, .slice none 0 0], .int .i64 a, .int .i64 b])) w' := by
  unfold CReadIs
  rw [h, ha, hb]
theorem readP_long {t : List UInt8} (h : 1000 < t.length) : readP t = .err 4 0 := by unfold readP; rw [if_pos h]
theorem readP_none {t : List UInt8} (h : ¬ 1000 < t.length) (hl : linesOf (pieces [] t) = none) : readP t = .err 7 (wrongAt (pieces [] t) + 1) := by unfold readP; rw [if_neg h, hl]
theorem readP_some {t : List UInt8} {ls : List Ln} (h : ¬ 1000 < t.length) (hl : linesOf (pieces [] t) = some ls) : readP t = judge ls := by unfold readP; rw [if_neg h, hl]
theorem LinesIs.no {base : Nat} {t : List UInt8} {e : Ending} {w' : World} (h : LinesIs base t e w') (hl : linesOf (pieces [] t) = none) : e = .returned (.tuple #[.slice none 0 0, .int .i64 ((wrongAt (pieces [] t) + 1 : Nat) : Int)]) := by
  unfold LinesIs at h; rw [hl] at h; exact h
theorem LinesIs.yes {base : Nat} {t : List UInt8} {ls : List Ln} {e : Ending} {w' : World} (h : LinesIs base t e w') (hl : linesOf (pieces [] t) = some ls) : ∃ a n c, e = .returned (.tuple #[.slice a n c, .int .i64 0]) ∧ LinesAt w' base (.slice a n c) ls ∧ ls.length ≤ 1001 := by
  unfold LinesIs at h; rw [hl] at h; exact h

set_option maxRecDepth 100000 in
set_option maxHeartbeats 2000000 in
theorem read_any {w : World} (hG : Glob w) (s : ByteArray) (hsz : s.size ≤ 1000000) :
    Calls Tryz.prog 13 #[.string s] w fun e w' => Keeps [] w w' ∧ CReadIs (bl s) e w' := by
  obtain ⟨t, ht⟩ : ∃ t, t = bl s := ⟨_, rfl⟩
  have hlen : s.size = t.length := by rw [ht, bl_len]
  have hb := blank_new w
  obtain ⟨b0, b1, b2, f0, f1, f2, blt⟩ := hb
  rw [← ht]
  have HT : Hid (s = mk t) := by show _ = _; rw [ht, mk_bl]
  clear ht
  by_cases hlong : 1000 < t.length
  · have HL := hid_intro hlong
    have HS := hid_intro hlen
    have q1 : decide ((1000 : Int) < (s.size : Int)) = true := by simp; omega
    clear hlong hlen
    go_enter Tryz.func13, Tryz.ntmps13
    go_wp2_with fail
    try simp only [Exit.inBlock, Exit.then]
    refine bodyPost_ret (v := .tuple #[.agg #[.slice none 0 0, .slice none 0 0, .slice none 0 0], .int .i64 4, .int .i64 0]) (by simp [results, Tryz.results13, go_sem, b0, b1, b2]; try rfl) rfl ?_
    exact ⟨(Keeps.refl _ _).alloc _, creadIs_err (readP_long HL.out) rfl rfl⟩
  · have hs := HT.out
    subst hs
    clear HT
    have HNL := hid_intro hlong
    have q1 : decide ((1000 : Int) < ((mk t).size : Int)) = false := by simp; omega
    have hrl := readLines_any (hG.keeps ((Keeps.refl [] w).alloc (.cells #[.slice none 0 0, .slice none 0 0, .slice none 0 0] 52))) t (by omega)
    have HB := hid_intro (blank_new w)
    have ht1000 : t.length ≤ 1000 := by omega
    have HTL := hid_intro ht1000
    clear b0 b1 b2 f0 f1 f2 blt hlong ht1000 hlen
    go_enter Tryz.func13, Tryz.ntmps13
    go_wp2_with fail
    refine hrl.mono ?_
    rintro e w1 ⟨hx1, hli⟩
    clear hrl
    have hk1 : Keeps [] w w1 := ((Keeps.refl [] w).alloc _).trans hx1
    have HB1 := hid_intro (HB.out.keeps hx1 (by simp))
    clear HB hx1
    cases hls : linesOf (pieces [] t) with
    | none =>
      have he := hli.no hls
      subst he
      have HE := hid_intro (readP_none HNL.out hls)
      clear hli hls
      obtain ⟨wa, hwa⟩ : ∃ wa, wa = wrongAt (pieces [] t) := ⟨_, rfl⟩
      rw [← hwa] at HE ⊢
      clear hwa
      have hp : ((0 : Int) < (((wa + 1 : Nat)) : Int)) := by omega
      have hp2 : decide ((0 : Int) < (((wa + 1 : Nat)) : Int)) = true := by simp
      obtain ⟨r0, r1, r2, s0, s1, s2, slt⟩ := HB1.out
      have y0 : (w1.setCell ⟨w.heap.size, 0, none⟩ (.slice none 0 0)).cell? ⟨w.heap.size, 0, none⟩ = some (.slice none 0 0) := cell_set r0
      have y1 : ((w1.setCell ⟨w.heap.size, 0, none⟩ (.slice none 0 0)).setCell ⟨w.heap.size, 1, none⟩ (.slice none 0 0)).cell? ⟨w.heap.size, 1, none⟩ = some (.slice none 0 0) := cell_set ((cell_off (by simp)).trans r1)
      have y2 : (((w1.setCell ⟨w.heap.size, 0, none⟩ (.slice none 0 0)).setCell ⟨w.heap.size, 1, none⟩ (.slice none 0 0)).setCell ⟨w.heap.size, 2, none⟩ (.slice none 0 0)).cell? ⟨w.heap.size, 2, none⟩ = some (.slice none 0 0) := cell_set ((cell_off (by simp)).trans ((cell_off (by simp)).trans r2))
      go_wp2_with fail
      try simp only [Exit.inBlock, Exit.then]
      refine bodyPost_ret (v := .tuple #[.agg #[.slice none 0 0, .slice none 0 0, .slice none 0 0], .int .i64 7, .int .i64 ((wa + 1 : Nat) : Int)]) (by simp [results, Tryz.results13, go_sem, y0, y1, y2]; try rfl) rfl ?_
      exact ⟨((hk1.setCell _ (Or.inr (by simp)) _).setCell _ (Or.inr (by simp)) _).setCell _ (Or.inr (by simp)) _, creadIs_err HE.out rfl rfl⟩
    | some ls =>
      obtain ⟨a, n, c, rfl, hla, hl1⟩ := hli.yes hls
      obtain ⟨hne, hok⟩ := lines_ok HTL.out hls
      have HLV1 := hid_intro (hla.lv hne hl1 hok)
      have HOK := hid_intro hok
      have HLS := hid_intro hls
      clear hli hls hla hok hne
      go_wp2_with fail
      have HC := twice_any HLV1.out
      refine HC.mono ?_
      rintro e w2 ⟨rfl, hx⟩
      clear HC
      have hk2 : Keeps [] w w2 := hk1.trans hx
      have HLV2 := hid_intro (HLV1.out.keeps hx)
      have HB2 := hid_intro (HB1.out.keeps hx (by simp))
      clear hx HLV1 HB1 hk1
      cases hf : firstAt (twiceAt ls) ls.length with
      | some i =>
        have HE := hid_intro ((readP_some HNL.out HLS.out).trans (judge_twice hf))
        have hp : ((0 : Int) < (((i + 1 : Nat)) : Int)) := by omega
        have hp2 : decide ((0 : Int) < (((i + 1 : Nat)) : Int)) = true := by simp
        simp only [tells]
        clear hf
        obtain ⟨r0, r1, r2, s0, s1, s2, slt⟩ := HB2.out
        have y0 : (w2.setCell ⟨w.heap.size, 0, none⟩ (.slice none 0 0)).cell? ⟨w.heap.size, 0, none⟩ = some (.slice none 0 0) := cell_set r0
        have y1 : ((w2.setCell ⟨w.heap.size, 0, none⟩ (.slice none 0 0)).setCell ⟨w.heap.size, 1, none⟩ (.slice none 0 0)).cell? ⟨w.heap.size, 1, none⟩ = some (.slice none 0 0) := cell_set ((cell_off (by simp)).trans r1)
        have y2 : (((w2.setCell ⟨w.heap.size, 0, none⟩ (.slice none 0 0)).setCell ⟨w.heap.size, 1, none⟩ (.slice none 0 0)).setCell ⟨w.heap.size, 2, none⟩ (.slice none 0 0)).cell? ⟨w.heap.size, 2, none⟩ = some (.slice none 0 0) := cell_set ((cell_off (by simp)).trans ((cell_off (by simp)).trans r2))
        go_wp2_with fail
        try simp only [Exit.inBlock, Exit.then]
        refine bodyPost_ret (v := .tuple #[.agg #[.slice none 0 0, .slice none 0 0, .slice none 0 0], .int .i64 8, .int .i64 ((i + 1 : Nat) : Int)]) (by simp [results, Tryz.results13, go_sem, y0, y1, y2]; try rfl) rfl ?_
        exact ⟨((hk2.setCell _ (Or.inr (by simp)) _).setCell _ (Or.inr (by simp)) _).setCell _ (Or.inr (by simp)) _, creadIs_err HE.out rfl rfl⟩
      | none =>
        have HF1 := hid_intro hf
        simp only [tells]
        clear hf
        go_wp2_with fail
        have HC := tooMany_any HLV2.out
        refine HC.mono ?_
        rintro e w3 ⟨rfl, hx⟩
        clear HC
        have hk3 : Keeps [] w w3 := hk2.trans hx
        have HLV3 := hid_intro (HLV2.out.keeps hx)
        have HB3 := hid_intro (HB2.out.keeps hx (by simp))
        clear hx HLV2 HB2 hk2
        cases hf : firstAt (manyAt ls) ls.length with
        | some i =>
          have HE := hid_intro ((readP_some HNL.out HLS.out).trans (judge_many HF1.out hf))
          have hp : ((0 : Int) < (((i + 1 : Nat)) : Int)) := by omega
          have hp2 : decide ((0 : Int) < (((i + 1 : Nat)) : Int)) = true := by simp
          simp only [tells]
          clear hf
          obtain ⟨r0, r1, r2, s0, s1, s2, slt⟩ := HB3.out
          have y0 : (w3.setCell ⟨w.heap.size, 0, none⟩ (.slice none 0 0)).cell? ⟨w.heap.size, 0, none⟩ = some (.slice none 0 0) := cell_set r0
          have y1 : ((w3.setCell ⟨w.heap.size, 0, none⟩ (.slice none 0 0)).setCell ⟨w.heap.size, 1, none⟩ (.slice none 0 0)).cell? ⟨w.heap.size, 1, none⟩ = some (.slice none 0 0) := cell_set ((cell_off (by simp)).trans r1)
          have y2 : (((w3.setCell ⟨w.heap.size, 0, none⟩ (.slice none 0 0)).setCell ⟨w.heap.size, 1, none⟩ (.slice none 0 0)).setCell ⟨w.heap.size, 2, none⟩ (.slice none 0 0)).cell? ⟨w.heap.size, 2, none⟩ = some (.slice none 0 0) := cell_set ((cell_off (by simp)).trans ((cell_off (by simp)).trans r2))
          go_wp2_with fail
          try simp only [Exit.inBlock, Exit.then]
          refine bodyPost_ret (v := .tuple #[.agg #[.slice none 0 0, .slice none 0 0, .slice none 0 0], .int .i64 4, .int .i64 ((i + 1 : Nat) : Int)]) (by simp [results, Tryz.results13, go_sem, y0, y1, y2]; try rfl) rfl ?_
          exact ⟨((hk3.setCell _ (Or.inr (by simp)) _).setCell _ (Or.inr (by simp)) _).setCell _ (Or.inr (by simp)) _, creadIs_err HE.out rfl rfl⟩
        | none =>
          have HF2 := hid_intro hf
          simp only [tells]
          clear hf
          go_wp2_with fail
          have HC := unknown_any HLV3.out (fun x hx => (HOK.out x hx).post.2.1)
          refine HC.mono ?_
          rintro e w4 ⟨rfl, hx⟩
          clear HC
          have hk4 : Keeps [] w w4 := hk3.trans hx
          have HLV4 := hid_intro (HLV3.out.keeps hx)
          have HB4 := hid_intro (HB3.out.keeps hx (by simp))
          clear hx HLV3 HB3 hk3
          cases hf : firstAt (unkAt ls) ls.length with
          | some i =>
            have HE := hid_intro ((readP_some HNL.out HLS.out).trans (judge_name HF1.out HF2.out (by rw [← hf]; exact (firstAt_congr fun i hi => unk_name (firstAt_none_iff HF1.out) HOK.out hi).symm)))
            have hp : ((0 : Int) < (((i + 1 : Nat)) : Int)) := by omega
            have hp2 : decide ((0 : Int) < (((i + 1 : Nat)) : Int)) = true := by simp
            simp only [tells]
            clear hf
            obtain ⟨r0, r1, r2, s0, s1, s2, slt⟩ := HB4.out
            have y0 : (w4.setCell ⟨w.heap.size, 0, none⟩ (.slice none 0 0)).cell? ⟨w.heap.size, 0, none⟩ = some (.slice none 0 0) := cell_set r0
            have y1 : ((w4.setCell ⟨w.heap.size, 0, none⟩ (.slice none 0 0)).setCell ⟨w.heap.size, 1, none⟩ (.slice none 0 0)).cell? ⟨w.heap.size, 1, none⟩ = some (.slice none 0 0) := cell_set ((cell_off (by simp)).trans r1)
            have y2 : (((w4.setCell ⟨w.heap.size, 0, none⟩ (.slice none 0 0)).setCell ⟨w.heap.size, 1, none⟩ (.slice none 0 0)).setCell ⟨w.heap.size, 2, none⟩ (.slice none 0 0)).cell? ⟨w.heap.size, 2, none⟩ = some (.slice none 0 0) := cell_set ((cell_off (by simp)).trans ((cell_off (by simp)).trans r2))
            go_wp2_with fail
            try simp only [Exit.inBlock, Exit.then]
            refine bodyPost_ret (v := .tuple #[.agg #[.slice none 0 0, .slice none 0 0, .slice none 0 0], .int .i64 9, .int .i64 ((i + 1 : Nat) : Int)]) (by simp [results, Tryz.results13, go_sem, y0, y1, y2]; try rfl) rfl ?_
            exact ⟨((hk4.setCell _ (Or.inr (by simp)) _).setCell _ (Or.inr (by simp)) _).setCell _ (Or.inr (by simp)) _, creadIs_err HE.out rfl rfl⟩
          | none =>
            have HF3 := hid_intro hf
            simp only [tells]
            clear hf
            go_wp2_with fail
            have HF3' : Hid (firstAt (nameAt ls) ls.length = none) := by
              show _ = _
              rw [← HF3.out]
              exact (firstAt_congr fun i hi => unk_name (firstAt_none_iff HF1.out) HOK.out hi).symm
            have HC := missing_any HLV4.out (fun x hx => (HOK.out x hx).bad)
            refine HC.mono ?_
            rintro e w5 ⟨rfl, hx⟩
            clear HC
            have hk5 : Keeps [] w w5 := hk4.trans hx
            have HLV5 := hid_intro (HLV4.out.keeps hx)
            have HB5 := hid_intro (HB4.out.keeps hx (by simp))
            clear hx HLV4 HB4 hk4
            cases hm : (missOf ls).2 with
            | true =>
              have HE := hid_intro ((readP_some HNL.out HLS.out).trans (judge_miss HF1.out HF2.out HF3'.out hm))
              obtain ⟨ml, hml⟩ : ∃ ml, ml = (missOf ls).1 := ⟨_, rfl⟩
              rw [← hml] at HE ⊢
              clear hm hml
              obtain ⟨r0, r1, r2, s0, s1, s2, slt⟩ := HB5.out
              have y0 : (w5.setCell ⟨w.heap.size, 0, none⟩ (.slice none 0 0)).cell? ⟨w.heap.size, 0, none⟩ = some (.slice none 0 0) := cell_set r0
              have y1 : ((w5.setCell ⟨w.heap.size, 0, none⟩ (.slice none 0 0)).setCell ⟨w.heap.size, 1, none⟩ (.slice none 0 0)).cell? ⟨w.heap.size, 1, none⟩ = some (.slice none 0 0) := cell_set ((cell_off (by simp)).trans r1)
              have y2 : (((w5.setCell ⟨w.heap.size, 0, none⟩ (.slice none 0 0)).setCell ⟨w.heap.size, 1, none⟩ (.slice none 0 0)).setCell ⟨w.heap.size, 2, none⟩ (.slice none 0 0)).cell? ⟨w.heap.size, 2, none⟩ = some (.slice none 0 0) := cell_set ((cell_off (by simp)).trans ((cell_off (by simp)).trans r2))
              go_wp2_with fail
              try simp only [Exit.inBlock, Exit.then]
              refine bodyPost_ret (v := .tuple #[.agg #[.slice none 0 0, .slice none 0 0, .slice none 0 0], .int .i64 10, .int .i64 (ml : Int)]) (by simp [results, Tryz.results13, go_sem, y0, y1, y2]; try rfl) rfl ?_
              exact ⟨((hk5.setCell _ (Or.inr (by simp)) _).setCell _ (Or.inr (by simp)) _).setCell _ (Or.inr (by simp)) _, creadIs_err HE.out rfl rfl⟩
            | false =>
              have HE := hid_intro ((readP_some HNL.out HLS.out).trans (judge_ok HF1.out HF2.out HF3'.out hm))
              obtain ⟨ml, hml⟩ : ∃ ml, ml = (missOf ls).1 := ⟨_, rfl⟩
              rw [← hml]
              clear hm hml
              have HGC : Hid (Calls Tryz.prog 31 #[.slice a n c] w5 fun e w' => ∃ a0 n0 m0 a1 m1 a2 n2 m2, e = .returned (.agg #[.slice a0 n0 m0, .slice a1 (latches ls).length m1, .slice a2 n2 m2]) ∧ CirAt w' ls (.slice a0 n0 m0) a1 (.slice a2 n2 m2) ∧ Keeps [] w5 w') := gather_any HLV5.out
              go_wp2_with fail
              refine HGC.out.mono ?_
              rintro e w6 ⟨a0, n0, m0, a1, m1, a2, n2, m2, rfl, hci, hx⟩
              have hk6 : Keeps [] w w6 := hk5.trans hx
              have HB6 := hid_intro (HB5.out.keeps hx (by simp))
              have HCI := hid_intro hci
              clear hx hci
              obtain ⟨nl, hnl⟩ : ∃ nl, nl = (latches ls).length := ⟨_, rfl⟩
              have HNLt := hid_intro hnl
              rw [← hnl]
              clear hnl
              obtain ⟨r0, r1, r2, s0, s1, s2, slt⟩ := HB6.out
              have y0 : (w6.setCell ⟨w.heap.size, 0, none⟩ (.slice a0 n0 m0)).cell? ⟨w.heap.size, 0, none⟩ = some (.slice a0 n0 m0) := cell_set r0
              have y1 : ((w6.setCell ⟨w.heap.size, 0, none⟩ (.slice a0 n0 m0)).setCell ⟨w.heap.size, 1, none⟩ (.slice a1 nl m1)).cell? ⟨w.heap.size, 1, none⟩ = some (.slice a1 nl m1) := cell_set ((cell_off (by simp)).trans r1)
              have y2 : (((w6.setCell ⟨w.heap.size, 0, none⟩ (.slice a0 n0 m0)).setCell ⟨w.heap.size, 1, none⟩ (.slice a1 nl m1)).setCell ⟨w.heap.size, 2, none⟩ (.slice a2 n2 m2)).cell? ⟨w.heap.size, 2, none⟩ = some (.slice a2 n2 m2) := cell_set ((cell_off (by simp)).trans ((cell_off (by simp)).trans r2))
              go_wp2_with fail
              try simp only [Exit.inBlock, Exit.then]
              refine bodyPost_ret (v := .tuple #[.agg #[.slice a0 n0 m0, .slice a1 nl m1, .slice a2 n2 m2], .int .i64 0, .int .i64 0]) (by simp [results, Tryz.results13, go_sem, y0, y1, y2]; try rfl) rfl ?_
              refine ⟨((hk6.setCell _ (Or.inr (by simp)) _).setCell _ (Or.inr (by simp)) _).setCell _ (Or.inr (by simp)) _, ?_⟩
              unfold CReadIs
              rw [HE.out]
              exact ⟨a0, n0, m0, a1, m1, a2, n2, m2, by rw [HNLt.out], HCI.out.box HB6.out _ _ _⟩

end Go.Proofs.YtmgjegokkbghlaaGreatDoor
