/- The walks that read a line, gone on: readBad, readLine. -/
import Derived.Test.YtmgjegokkbghlaaGreatDoorLine
namespace Go.Proofs.YtmgjegokkbghlaaGreatDoor
open Go.RowKit Go.Maps Gram Circ
set_option linter.unusedVariables false

set_option maxRecDepth 100000 in
set_option maxHeartbeats 1000000 in
theorem readBad_any {w : World} {v : Value} {ws : List W} (hv : WS w v ws) (hpos : ∀ x ∈ ws, 0 < ByteArray.size x) (hl : ws.length ≤ 2000) :
    Calls Tryz.prog 126 #[v] w fun e w' => Keeps [] w w' ∧ LineIs w.heap.size (badOfW ws) e w' := by
  cases ws with
  | nil =>
    obtain ⟨a, cap, rfl⟩ := hv.nil
    have HR : Hid (badOfW [] = none) := rfl
    go_enter Tryz.func126, Tryz.ntmps126
    go_wp2_with fail
    exact bodyPost_ret (v := .tuple #[.agg #[.int .i64 0, .string ⟨#[]⟩, .string ⟨#[]⟩, .slice none 0 0], .bool false]) (by simp [results, Tryz.results126, go_sem]) rfl ⟨(Keeps.refl _ _).alloc _, lineIs_no HR.out⟩
  | cons y r =>
    obtain ⟨b, o, cap, rfl, h1, h2, h3, hc, hrest⟩ := hv.cons
    have hr0 : ∀ z ∈ r, 0 < ByteArray.size z := fun z hz => hpos z (by simp [hz])
    have HR : Hid (badOfW (y :: r) = if y = eqs then (parseW r).map fun ex => ⟨4, emp, emp, r, ex⟩ else none) := rfl
    have hrl : r.length ≤ 2000 := by simp at hl; omega
    have hq0 : (1 : Int) ≤ ((r.length + 1 : Nat) : Int) := by omega
    clear hv hpos hl
    cases he : decide (y = eqs)
    · have q2 := lit_eq y [61] _ he
      have HE : Hid (¬ y = eqs) := (of_decide_eq_false he : ¬ y = eqs)
      clear he
      go_enter Tryz.func126, Tryz.ntmps126
      go_wp2_with fail
      exact bodyPost_ret (v := .tuple #[.agg #[.int .i64 0, .string ⟨#[]⟩, .string ⟨#[]⟩, .slice none 0 0], .bool false]) (by simp [results, Tryz.results126, go_sem]) rfl ⟨(Keeps.refl _ _).alloc _, lineIs_no (by rw [HR.out, if_neg HE.out])⟩
    · have q2 := lit_eq y [61] _ he
      have HE : Hid (y = eqs) := (of_decide_eq_true he : y = eqs)
      clear he
      by_cases e2 : cap = 1
      · subst e2
        obtain rfl : r = [] := List.length_eq_zero_iff.1 (by omega)
        have HP : Hid (∀ w1, Keeps [] w w1 → Calls Tryz.prog 179 #[.slice (some ⟨b, o, none⟩) 0 0] w1 fun e w' => Keeps [] w1 w' ∧ ParseIs w1.heap.size [] e w') := fun w1 hk1 => parse_any ⟨_, _, rfl, by simp, by decide, fun j hj => by simp at hj⟩ (by simp) (by simp)
        clear hrest h1 hrl hq0 hr0
        simp only [List.length_nil, Nat.zero_add]
        go_enter Tryz.func126, Tryz.ntmps126
        go_wp2_with (first
          | (go_at_call 179; refine (HP.out _ ((Keeps.refl _ _).alloc _)).mono ?_; rintro e w2 ⟨hk2, hpi⟩; obtain ⟨pa, pn, pc, rfl⟩ := hpi.no rfl; clear hpi; obtain ⟨z0, z1, z2, z3, y0, y1, y2, y3, hlt2, hkw⟩ := line_box hk2))
        exact bodyPost_ret (v := .tuple #[.agg #[.int .i64 4, .string ⟨#[]⟩, .string ⟨#[]⟩, .slice pa pn pc], .bool false]) (by simp [results, Tryz.results126, go_sem, z0, z1, z2, z3]) rfl ⟨keeps_new4 hkw, lineIs_no (by rw [HR.out, if_pos HE.out]; rfl)⟩
      · rw [if_neg e2] at hrest
        have HP : Hid (∀ w1, Keeps [] w w1 → Calls Tryz.prog 179 #[.slice (some ⟨b, o + 1, none⟩) r.length (cap - 1)] w1 fun e w' => Keeps [] w1 w' ∧ ParseIs w1.heap.size r e w') := fun w1 hk1 => parse_any (hrest.keeps hk1) hrl hr0
        have hq3 : (1 : Int) ≤ (cap : Int) := by omega
        clear hrest
        cases hp : parseW r with
        | none =>
          have HPr : Hid (parseW r = none) := hp
          clear hp
          go_enter Tryz.func126, Tryz.ntmps126
          go_wp2_with (first
            | (go_at_call 179; refine (HP.out _ ((Keeps.refl _ _).alloc _)).mono ?_; rintro e w2 ⟨hk2, hpi⟩; obtain ⟨pa, pn, pc, rfl⟩ := hpi.no HPr.out; clear hpi; obtain ⟨z0, z1, z2, z3, y0, y1, y2, y3, hlt2, hkw⟩ := line_box hk2))
          exact bodyPost_ret (v := .tuple #[.agg #[.int .i64 4, .string ⟨#[]⟩, .string ⟨#[]⟩, .slice pa pn pc], .bool false]) (by simp [results, Tryz.results126, go_sem, z0, z1, z2, z3]) rfl ⟨keeps_new4 hkw, lineIs_no (by rw [HR.out, if_pos HE.out, HPr.out]; rfl)⟩
        | some ex =>
          have HPr : Hid (parseW r = some ex) := hp
          clear hp
          go_enter Tryz.func126, Tryz.ntmps126
          go_wp2_with (first
            | (go_at_call 179; refine (HP.out _ ((Keeps.refl _ _).alloc _)).mono ?_; rintro e w2 ⟨hk2, hpi⟩; obtain ⟨pa, pn, pc, rfl, hW2⟩ := hpi.yes HPr.out; clear hpi; obtain ⟨z0, z1, z2, z3, y0, y1, y2, y3, hlt2, hkw⟩ := line_box hk2))
          refine bodyPost_ret (v := .tuple #[.agg #[.int .i64 4, .string ⟨#[]⟩, .string ⟨#[]⟩, .slice pa pn pc], .bool true]) (by simp [results, Tryz.results126, go_sem, z0, z1, z2, z3]) rfl ⟨keeps_new4 hkw, ?_⟩
          rw [HR.out, if_pos HE.out, HPr.out]
          exact ⟨pa, pn, pc, rfl, wds_new4 hW2⟩

theorem LineIs.no {base : Nat} {res : Option Ln} {e : Ending} {w' : World} (h : LineIs base res e w') (hr : res = none) : ∃ k n f a m c, e = .returned (.tuple #[.agg #[.int .i64 k, .string n, .string f, .slice a m c], .bool false]) := by
  subst hr; exact h
theorem LineIs.yes {base : Nat} {res : Option Ln} {x : Ln} {e : Ending} {w' : World} (h : LineIs base res e w') (hr : res = some x) : ∃ a m c, e = .returned (.tuple #[.agg #[.int .i64 (x.kind : Int), .string x.name, .string x.first, .slice a m c], .bool true]) ∧ Wds w' base (.slice a m c) (lnPost x) := by
  subst hr; exact h
theorem SplitIs.no {s : ByteArray} {base : Nat} {e : Ending} {w' : World} (h : SplitIs s base e w') (hw : wordsOf (bl s) = none) : e = .returned (.tuple #[.slice none 0 0, .bool false]) := by
  unfold SplitIs at h; rw [hw] at h; exact h
theorem SplitIs.yes {s : ByteArray} {base : Nat} {e : Ending} {w' : World} {ws : List W} (h : SplitIs s base e w') (hw : wordsOf (bl s) = some ws) : ∃ v, e = .returned (.tuple #[v, .bool true]) ∧ Wds w' base v ws ∧ ws.length ≤ 1000 := by
  unfold SplitIs at h; rw [hw] at h; exact h

theorem words_pos : ∀ {l cur : List UInt8} {ws : List W}, wordsA cur l = some ws → ∀ x ∈ ws, 0 < ByteArray.size x := by
  have fl : ∀ {cur : List UInt8} {ws : List W}, flush cur = some ws → ∀ x ∈ ws, 0 < ByteArray.size x := by
    intro cur ws h x hx
    unfold flush at h
    cases cur with
    | nil => simp at h; subst h; simp at hx
    | cons c r =>
      simp at h
      obtain ⟨_, rfl⟩ := h
      simp at hx
      subst hx
      rw [mk_size]; simp
  intro l
  induction l with
  | nil => intro cur ws h; exact fl h
  | cons c r ih =>
    intro cur ws h
    rw [wordsA] at h
    by_cases ha : an c = true
    · rw [if_pos ha] at h; exact ih h
    · rw [if_neg ha] at h
      split at h
      · cases h
      · rename_i pre hp
        by_cases h32 : (c == 32) = true
        · rw [if_pos h32] at h
          cases hw : wordsA [] r with
          | none => rw [hw] at h; cases h
          | some ws' =>
            rw [hw] at h
            simp at h
            subst h
            intro x hx
            rcases List.mem_append.1 hx with hx | hx
            · exact fl hp x hx
            · exact ih hw x hx
        · rw [if_neg h32] at h
          by_cases hs : sign c = true
          · rw [if_pos hs] at h
            cases hw : wordsA [] r with
            | none => rw [hw] at h; cases h
            | some ws' =>
              rw [hw] at h
              simp at h
              subst h
              intro x hx
              rcases List.mem_append.1 hx with hx | hx
              · exact fl hp x hx
              · rcases List.mem_cons.1 hx with rfl | hx
                · rw [mk_size]; simp
                · exact ih hw x hx
          · rw [if_neg hs] at h; cases h

theorem words_len {s : List UInt8} {ws : List W} (h : wordsOf s = some ws) : ws.length ≤ s.length := by
  have fl : ∀ {cur : List UInt8} {ws : List W}, flush cur = some ws → ws.length ≤ cur.length := by
    intro cur ws h
    unfold flush at h
    cases cur with
    | nil => simp at h; subst h; simp
    | cons c r => simp at h; obtain ⟨_, rfl⟩ := h; simp
  have key : ∀ (l cur : List UInt8) (ws : List W), wordsA cur l = some ws → ws.length ≤ cur.length + l.length := by
    intro l
    induction l with
    | nil => intro cur ws h; simpa using fl h
    | cons c r ih =>
      intro cur ws h
      rw [wordsA] at h
      by_cases ha : an c = true
      · rw [if_pos ha] at h; have := ih _ _ h; simp at this ⊢; omega
      · rw [if_neg ha] at h
        split at h
        · cases h
        · rename_i pre hp
          have hpl := fl hp
          by_cases h32 : (c == 32) = true
          · rw [if_pos h32] at h
            cases hw : wordsA [] r with
            | none => rw [hw] at h; cases h
            | some ws' => rw [hw] at h; simp at h; subst h; have := ih _ _ hw; simp at this ⊢; omega
          · rw [if_neg h32] at h
            by_cases hs : sign c = true
            · rw [if_pos hs] at h
              cases hw : wordsA [] r with
              | none => rw [hw] at h; cases h
              | some ws' => rw [hw] at h; simp at h; subst h; have := ih _ _ hw; simp at this ⊢; omega
            · rw [if_neg hs] at h; cases h
  have := key s [] ws h
  simpa using this
theorem wds_new4' {w w2 w3 : World} {v : Value} {l : List W} (h : Wds w3 w2.heap.size v l) (hlt : w.heap.size < w3.heap.size) (hs : w.heap.size < w2.heap.size) {a b c d : Value} : Wds ((((w3.setCell ⟨w.heap.size, 0, none⟩ a).setCell ⟨w.heap.size, 1, none⟩ b).setCell ⟨w.heap.size, 2, none⟩ c).setCell ⟨w.heap.size, 3, none⟩ d) w.heap.size v l :=
  (h.keeps (S := [w.heap.size]) (((((Keeps.refl _ _).setCell _ (Or.inl (by simp)) _).setCell _ (Or.inl (by simp)) _).setCell _ (Or.inl (by simp)) _).setCell _ (Or.inl (by simp)) _) (by simpa using hs)).base (by omega)

set_option maxRecDepth 100000 in
set_option maxHeartbeats 2000000 in
theorem readLine_any {w : World} (hG : Glob w) (s : ByteArray) (hs : s.size ≤ 1000) :
    Calls Tryz.prog 63 #[.string s] w fun e w' => Keeps [] w w' ∧ LineIs w.heap.size (sayOf (bl s)) e w' := by
  obtain ⟨w0, hw0⟩ : ∃ w0, w0 = w.alloc (.cells #[.int .i64 0, .string ⟨#[]⟩, .string ⟨#[]⟩, .slice none 0 0] 139) := ⟨_, rfl⟩
  have hk0 : Keeps [] w w0 := by rw [hw0]; exact (Keeps.refl _ _).alloc _
  have HS : Hid (Calls Tryz.prog 122 #[.string s] w0 fun e w' => Keeps [] w0 w' ∧ SplitIs s w0.heap.size e w') := split_any (hG.keeps hk0) s hs
  have HW : Hid (w0 = w.alloc (.cells #[.int .i64 0, .string ⟨#[]⟩, .string ⟨#[]⟩, .slice none 0 0] 139)) := hw0
  have hs0 : w0.heap.size = w.heap.size + 1 := by rw [hw0]; simp
  clear hw0
  cases hws : wordsOf (bl s) with
  | none =>
    have HR : Hid (sayOf (bl s) = none) := by show _ = _; unfold sayOf; rw [hws]
    have HN : Hid (wordsOf (bl s) = none) := hws
    clear hws
    go_enter Tryz.func63, Tryz.ntmps63
    go_wp2_with (first
      | (go_at_call 122; rw [← HW.out]; refine HS.out.mono ?_; rintro e w2 ⟨hk2, hsp⟩; rw [HW.out] at hk2; obtain rfl := hsp.no HN.out; clear hsp; obtain ⟨z0, z1, z2, z3, y0, y1, y2, y3, hlt2, hkw⟩ := line_box hk2))
    exact bodyPost_ret (v := .tuple #[.agg #[.int .i64 0, .string ⟨#[]⟩, .string ⟨#[]⟩, .slice none 0 0], .bool false]) (by simp [results, Tryz.results63, go_sem, z0, z1, z2, z3]) rfl ⟨keeps_new4 hkw, lineIs_no HR.out⟩
  | some ws =>
    have HN : Hid (wordsOf (bl s) = some ws) := hws
    have hpos : ∀ x ∈ ws, 0 < ByteArray.size x := words_pos hws
    cases ws with
    | nil =>
      have HR : Hid (sayOf (bl s) = some ⟨0, emp, emp, [], .lit false⟩) := by show _ = _; unfold sayOf; rw [hws]; rfl
      clear hws hpos
      go_enter Tryz.func63, Tryz.ntmps63
      go_wp2_with (first
        | (go_at_call 122; rw [← HW.out]; refine HS.out.mono ?_; rintro e w2 ⟨hk2, hsp⟩; rw [HW.out] at hk2; obtain ⟨v, rfl, hWv, _⟩ := hsp.yes HN.out; clear hsp; obtain ⟨sa, scap, rfl⟩ := hWv.ws.nil; obtain ⟨z0, z1, z2, z3, y0, y1, y2, y3, hlt2, hkw⟩ := line_box hk2))
      refine bodyPost_ret (v := .tuple #[.agg #[.int .i64 0, .string ⟨#[]⟩, .string ⟨#[]⟩, .slice none 0 0], .bool true]) (by simp [results, Tryz.results63, go_sem, z0, z1, z2, z3]) rfl ⟨keeps_new4 hkw, ?_⟩
      rw [HR.out]
      exact ⟨none, 0, 0, rfl, wds_nil _ _⟩
    | cons x r =>
      have hsay : sayOf (bl s) = lineOf (x :: r) := by unfold sayOf; rw [hws]
      rw [hsay, lineOf_cons]
      have hr0 : ∀ z ∈ r, 0 < ByteArray.size z := fun z hz => hpos z (by simp [hz])
      clear hws hpos hsay
      have hlr : r.length ≤ 2000 := by
        have := words_len HN.out
        rw [bl_len] at this
        simp at this; omega
      cases e0 : decide (x = bIn)
      rotate_left
      · have q0 := lit_eq x [105, 110] _ e0
        have HE : Hid (x = bIn) := (of_decide_eq_true e0 : x = bIn)
        rw [if_pos HE.out]
        clear e0
        have HF : Hid (∀ w1 a m c, WS w1 (.slice a m c) r → Calls Tryz.prog 123 #[.slice a m c] w1 fun e w' => Keeps [] w1 w' ∧ LineIs w1.heap.size (inputOf r) e w') := fun w1 a m c h => readInput_any h hr0
        cases hres : inputOf r with
        | none =>
          have HR : Hid (inputOf r = none) := hres
          clear hres
          go_enter Tryz.func63, Tryz.ntmps63
          go_wp2_with (first
            | (go_at_call 122; rw [← HW.out]; refine HS.out.mono ?_; rintro e w2 ⟨hk2, hsp⟩; rw [HW.out] at hk2; obtain ⟨v, rfl, hWv, hlen⟩ := hsp.yes HN.out; clear hsp; obtain ⟨b, o, cap, rfl, hb1, hb2, hb3, hc, hrest⟩ := hWv.ws.cons; obtain ⟨z0, z1, z2, z3, y0, y1, y2, y3, hlt2, hkw⟩ := line_box hk2; have hq0 : (1 : Int) ≤ ((r.length + 1 : Nat) : Int) := by omega))
          all_goals
            first | (have hcap := (by assumption : cap = 1); rw [if_pos hcap, hcap] at hrest) | (have hcap := (by assumption : ¬ cap = 1); rw [if_neg hcap] at hrest)
            refine (HF.out w2 _ _ _ hrest).mono ?_
            rintro e w3 ⟨hk3, hli⟩
            obtain ⟨lk, ln, lf, la, lm, lc, rfl⟩ := hli.no HR.out
            have hsz2 := hlt2
            clear hli z0 z1 z2 z3 y0 y1 y2 y3 hlt2 hkw
            obtain ⟨z0, z1, z2, z3, y0, y1, y2, y3, hlt2, hkw⟩ := line_box (hk2.trans hk3)
            go_wp2_with fail
            exact bodyPost_ret (v := .tuple #[.agg #[.int .i64 lk, .string ln, .string lf, .slice la lm lc], .bool false]) (by simp [results, Tryz.results63, go_sem, z0, z1, z2, z3]) rfl ⟨keeps_new4 hkw, lineIs_no rfl⟩
        | some xl =>
          have HR : Hid (inputOf r = some xl) := hres
          clear hres
          go_enter Tryz.func63, Tryz.ntmps63
          go_wp2_with (first
            | (go_at_call 122; rw [← HW.out]; refine HS.out.mono ?_; rintro e w2 ⟨hk2, hsp⟩; rw [HW.out] at hk2; obtain ⟨v, rfl, hWv, hlen⟩ := hsp.yes HN.out; clear hsp; obtain ⟨b, o, cap, rfl, hb1, hb2, hb3, hc, hrest⟩ := hWv.ws.cons; obtain ⟨z0, z1, z2, z3, y0, y1, y2, y3, hlt2, hkw⟩ := line_box hk2; have hq0 : (1 : Int) ≤ ((r.length + 1 : Nat) : Int) := by omega))
          all_goals
            first | (have hcap := (by assumption : cap = 1); rw [if_pos hcap, hcap] at hrest) | (have hcap := (by assumption : ¬ cap = 1); rw [if_neg hcap] at hrest)
            refine (HF.out w2 _ _ _ hrest).mono ?_
            rintro e w3 ⟨hk3, hli⟩
            obtain ⟨la, lm, lc, rfl, hWl⟩ := hli.yes HR.out
            have hsz2 := hlt2
            clear hli z0 z1 z2 z3 y0 y1 y2 y3 hlt2 hkw
            obtain ⟨z0, z1, z2, z3, y0, y1, y2, y3, hlt2, hkw⟩ := line_box (hk2.trans hk3)
            go_wp2_with fail
            exact bodyPost_ret (v := .tuple #[.agg #[.int .i64 (xl.kind : Int), .string xl.name, .string xl.first, .slice la lm lc], .bool true]) (by simp [results, Tryz.results63, go_sem, z0, z1, z2, z3]) rfl ⟨keeps_new4 hkw, la, lm, lc, rfl, wds_new4' hWl hlt2 hsz2⟩
      have q0 := lit_eq x [105, 110] _ e0
      rw [if_neg (of_decide_eq_false e0 : ¬ x = bIn)]
      clear e0
      cases e1 : decide (x = bLatch)
      rotate_left
      · have q1 := lit_eq x [108, 97, 116, 99, 104] _ e1
        have HE : Hid (x = bLatch) := (of_decide_eq_true e1 : x = bLatch)
        rw [if_pos HE.out]
        clear e1
        have HF : Hid (∀ w1 a m c, WS w1 (.slice a m c) r → Calls Tryz.prog 124 #[.slice a m c] w1 fun e w' => Keeps [] w1 w' ∧ LineIs w1.heap.size (latchOf r) e w') := fun w1 a m c h => readLatch_any h hr0
        cases hres : latchOf r with
        | none =>
          have HR : Hid (latchOf r = none) := hres
          clear hres
          go_enter Tryz.func63, Tryz.ntmps63
          go_wp2_with (first
            | (go_at_call 122; rw [← HW.out]; refine HS.out.mono ?_; rintro e w2 ⟨hk2, hsp⟩; rw [HW.out] at hk2; obtain ⟨v, rfl, hWv, hlen⟩ := hsp.yes HN.out; clear hsp; obtain ⟨b, o, cap, rfl, hb1, hb2, hb3, hc, hrest⟩ := hWv.ws.cons; obtain ⟨z0, z1, z2, z3, y0, y1, y2, y3, hlt2, hkw⟩ := line_box hk2; have hq0 : (1 : Int) ≤ ((r.length + 1 : Nat) : Int) := by omega))
          all_goals
            first | (have hcap := (by assumption : cap = 1); rw [if_pos hcap, hcap] at hrest) | (have hcap := (by assumption : ¬ cap = 1); rw [if_neg hcap] at hrest)
            refine (HF.out w2 _ _ _ hrest).mono ?_
            rintro e w3 ⟨hk3, hli⟩
            obtain ⟨lk, ln, lf, la, lm, lc, rfl⟩ := hli.no HR.out
            have hsz2 := hlt2
            clear hli z0 z1 z2 z3 y0 y1 y2 y3 hlt2 hkw
            obtain ⟨z0, z1, z2, z3, y0, y1, y2, y3, hlt2, hkw⟩ := line_box (hk2.trans hk3)
            go_wp2_with fail
            exact bodyPost_ret (v := .tuple #[.agg #[.int .i64 lk, .string ln, .string lf, .slice la lm lc], .bool false]) (by simp [results, Tryz.results63, go_sem, z0, z1, z2, z3]) rfl ⟨keeps_new4 hkw, lineIs_no rfl⟩
        | some xl =>
          have HR : Hid (latchOf r = some xl) := hres
          clear hres
          go_enter Tryz.func63, Tryz.ntmps63
          go_wp2_with (first
            | (go_at_call 122; rw [← HW.out]; refine HS.out.mono ?_; rintro e w2 ⟨hk2, hsp⟩; rw [HW.out] at hk2; obtain ⟨v, rfl, hWv, hlen⟩ := hsp.yes HN.out; clear hsp; obtain ⟨b, o, cap, rfl, hb1, hb2, hb3, hc, hrest⟩ := hWv.ws.cons; obtain ⟨z0, z1, z2, z3, y0, y1, y2, y3, hlt2, hkw⟩ := line_box hk2; have hq0 : (1 : Int) ≤ ((r.length + 1 : Nat) : Int) := by omega))
          all_goals
            first | (have hcap := (by assumption : cap = 1); rw [if_pos hcap, hcap] at hrest) | (have hcap := (by assumption : ¬ cap = 1); rw [if_neg hcap] at hrest)
            refine (HF.out w2 _ _ _ hrest).mono ?_
            rintro e w3 ⟨hk3, hli⟩
            obtain ⟨la, lm, lc, rfl, hWl⟩ := hli.yes HR.out
            have hsz2 := hlt2
            clear hli z0 z1 z2 z3 y0 y1 y2 y3 hlt2 hkw
            obtain ⟨z0, z1, z2, z3, y0, y1, y2, y3, hlt2, hkw⟩ := line_box (hk2.trans hk3)
            go_wp2_with fail
            exact bodyPost_ret (v := .tuple #[.agg #[.int .i64 (xl.kind : Int), .string xl.name, .string xl.first, .slice la lm lc], .bool true]) (by simp [results, Tryz.results63, go_sem, z0, z1, z2, z3]) rfl ⟨keeps_new4 hkw, la, lm, lc, rfl, wds_new4' hWl hlt2 hsz2⟩
      have q1 := lit_eq x [108, 97, 116, 99, 104] _ e1
      rw [if_neg (of_decide_eq_false e1 : ¬ x = bLatch)]
      clear e1
      cases e2 : decide (x = bNext)
      rotate_left
      · have q2 := lit_eq x [110, 101, 120, 116] _ e2
        have HE : Hid (x = bNext) := (of_decide_eq_true e2 : x = bNext)
        rw [if_pos HE.out]
        clear e2
        have HF : Hid (∀ w1 a m c, WS w1 (.slice a m c) r → Calls Tryz.prog 125 #[.slice a m c] w1 fun e w' => Keeps [] w1 w' ∧ LineIs w1.heap.size (nextOfW r) e w') := fun w1 a m c h => readNext_any h hr0 hlr
        cases hres : nextOfW r with
        | none =>
          have HR : Hid (nextOfW r = none) := hres
          clear hres
          go_enter Tryz.func63, Tryz.ntmps63
          go_wp2_with (first
            | (go_at_call 122; rw [← HW.out]; refine HS.out.mono ?_; rintro e w2 ⟨hk2, hsp⟩; rw [HW.out] at hk2; obtain ⟨v, rfl, hWv, hlen⟩ := hsp.yes HN.out; clear hsp; obtain ⟨b, o, cap, rfl, hb1, hb2, hb3, hc, hrest⟩ := hWv.ws.cons; obtain ⟨z0, z1, z2, z3, y0, y1, y2, y3, hlt2, hkw⟩ := line_box hk2; have hq0 : (1 : Int) ≤ ((r.length + 1 : Nat) : Int) := by omega))
          all_goals
            first | (have hcap := (by assumption : cap = 1); rw [if_pos hcap, hcap] at hrest) | (have hcap := (by assumption : ¬ cap = 1); rw [if_neg hcap] at hrest)
            refine (HF.out w2 _ _ _ hrest).mono ?_
            rintro e w3 ⟨hk3, hli⟩
            obtain ⟨lk, ln, lf, la, lm, lc, rfl⟩ := hli.no HR.out
            have hsz2 := hlt2
            clear hli z0 z1 z2 z3 y0 y1 y2 y3 hlt2 hkw
            obtain ⟨z0, z1, z2, z3, y0, y1, y2, y3, hlt2, hkw⟩ := line_box (hk2.trans hk3)
            go_wp2_with fail
            exact bodyPost_ret (v := .tuple #[.agg #[.int .i64 lk, .string ln, .string lf, .slice la lm lc], .bool false]) (by simp [results, Tryz.results63, go_sem, z0, z1, z2, z3]) rfl ⟨keeps_new4 hkw, lineIs_no rfl⟩
        | some xl =>
          have HR : Hid (nextOfW r = some xl) := hres
          clear hres
          go_enter Tryz.func63, Tryz.ntmps63
          go_wp2_with (first
            | (go_at_call 122; rw [← HW.out]; refine HS.out.mono ?_; rintro e w2 ⟨hk2, hsp⟩; rw [HW.out] at hk2; obtain ⟨v, rfl, hWv, hlen⟩ := hsp.yes HN.out; clear hsp; obtain ⟨b, o, cap, rfl, hb1, hb2, hb3, hc, hrest⟩ := hWv.ws.cons; obtain ⟨z0, z1, z2, z3, y0, y1, y2, y3, hlt2, hkw⟩ := line_box hk2; have hq0 : (1 : Int) ≤ ((r.length + 1 : Nat) : Int) := by omega))
          all_goals
            first | (have hcap := (by assumption : cap = 1); rw [if_pos hcap, hcap] at hrest) | (have hcap := (by assumption : ¬ cap = 1); rw [if_neg hcap] at hrest)
            refine (HF.out w2 _ _ _ hrest).mono ?_
            rintro e w3 ⟨hk3, hli⟩
            obtain ⟨la, lm, lc, rfl, hWl⟩ := hli.yes HR.out
            have hsz2 := hlt2
            clear hli z0 z1 z2 z3 y0 y1 y2 y3 hlt2 hkw
            obtain ⟨z0, z1, z2, z3, y0, y1, y2, y3, hlt2, hkw⟩ := line_box (hk2.trans hk3)
            go_wp2_with fail
            exact bodyPost_ret (v := .tuple #[.agg #[.int .i64 (xl.kind : Int), .string xl.name, .string xl.first, .slice la lm lc], .bool true]) (by simp [results, Tryz.results63, go_sem, z0, z1, z2, z3]) rfl ⟨keeps_new4 hkw, la, lm, lc, rfl, wds_new4' hWl hlt2 hsz2⟩
      have q2 := lit_eq x [110, 101, 120, 116] _ e2
      rw [if_neg (of_decide_eq_false e2 : ¬ x = bNext)]
      clear e2
      cases e3 : decide (x = bBad)
      rotate_left
      · have q3 := lit_eq x [98, 97, 100] _ e3
        have HE : Hid (x = bBad) := (of_decide_eq_true e3 : x = bBad)
        rw [if_pos HE.out]
        clear e3
        have HF : Hid (∀ w1 a m c, WS w1 (.slice a m c) r → Calls Tryz.prog 126 #[.slice a m c] w1 fun e w' => Keeps [] w1 w' ∧ LineIs w1.heap.size (badOfW r) e w') := fun w1 a m c h => readBad_any h hr0 hlr
        cases hres : badOfW r with
        | none =>
          have HR : Hid (badOfW r = none) := hres
          clear hres
          go_enter Tryz.func63, Tryz.ntmps63
          go_wp2_with (first
            | (go_at_call 122; rw [← HW.out]; refine HS.out.mono ?_; rintro e w2 ⟨hk2, hsp⟩; rw [HW.out] at hk2; obtain ⟨v, rfl, hWv, hlen⟩ := hsp.yes HN.out; clear hsp; obtain ⟨b, o, cap, rfl, hb1, hb2, hb3, hc, hrest⟩ := hWv.ws.cons; obtain ⟨z0, z1, z2, z3, y0, y1, y2, y3, hlt2, hkw⟩ := line_box hk2; have hq0 : (1 : Int) ≤ ((r.length + 1 : Nat) : Int) := by omega))
          all_goals
            first | (have hcap := (by assumption : cap = 1); rw [if_pos hcap, hcap] at hrest) | (have hcap := (by assumption : ¬ cap = 1); rw [if_neg hcap] at hrest)
            refine (HF.out w2 _ _ _ hrest).mono ?_
            rintro e w3 ⟨hk3, hli⟩
            obtain ⟨lk, ln, lf, la, lm, lc, rfl⟩ := hli.no HR.out
            have hsz2 := hlt2
            clear hli z0 z1 z2 z3 y0 y1 y2 y3 hlt2 hkw
            obtain ⟨z0, z1, z2, z3, y0, y1, y2, y3, hlt2, hkw⟩ := line_box (hk2.trans hk3)
            go_wp2_with fail
            exact bodyPost_ret (v := .tuple #[.agg #[.int .i64 lk, .string ln, .string lf, .slice la lm lc], .bool false]) (by simp [results, Tryz.results63, go_sem, z0, z1, z2, z3]) rfl ⟨keeps_new4 hkw, lineIs_no rfl⟩
        | some xl =>
          have HR : Hid (badOfW r = some xl) := hres
          clear hres
          go_enter Tryz.func63, Tryz.ntmps63
          go_wp2_with (first
            | (go_at_call 122; rw [← HW.out]; refine HS.out.mono ?_; rintro e w2 ⟨hk2, hsp⟩; rw [HW.out] at hk2; obtain ⟨v, rfl, hWv, hlen⟩ := hsp.yes HN.out; clear hsp; obtain ⟨b, o, cap, rfl, hb1, hb2, hb3, hc, hrest⟩ := hWv.ws.cons; obtain ⟨z0, z1, z2, z3, y0, y1, y2, y3, hlt2, hkw⟩ := line_box hk2; have hq0 : (1 : Int) ≤ ((r.length + 1 : Nat) : Int) := by omega))
          all_goals
            first | (have hcap := (by assumption : cap = 1); rw [if_pos hcap, hcap] at hrest) | (have hcap := (by assumption : ¬ cap = 1); rw [if_neg hcap] at hrest)
            refine (HF.out w2 _ _ _ hrest).mono ?_
            rintro e w3 ⟨hk3, hli⟩
            obtain ⟨la, lm, lc, rfl, hWl⟩ := hli.yes HR.out
            have hsz2 := hlt2
            clear hli z0 z1 z2 z3 y0 y1 y2 y3 hlt2 hkw
            obtain ⟨z0, z1, z2, z3, y0, y1, y2, y3, hlt2, hkw⟩ := line_box (hk2.trans hk3)
            go_wp2_with fail
            exact bodyPost_ret (v := .tuple #[.agg #[.int .i64 (xl.kind : Int), .string xl.name, .string xl.first, .slice la lm lc], .bool true]) (by simp [results, Tryz.results63, go_sem, z0, z1, z2, z3]) rfl ⟨keeps_new4 hkw, la, lm, lc, rfl, wds_new4' hWl hlt2 hsz2⟩
      have q3 := lit_eq x [98, 97, 100] _ e3
      rw [if_neg (of_decide_eq_false e3 : ¬ x = bBad)]
      clear e3
      go_enter Tryz.func63, Tryz.ntmps63
      go_wp2_with (first
        | (go_at_call 122; rw [← HW.out]; refine HS.out.mono ?_; rintro e w2 ⟨hk2, hsp⟩; rw [HW.out] at hk2; obtain ⟨v, rfl, hWv, hlen⟩ := hsp.yes HN.out; clear hsp; obtain ⟨b, o, cap, rfl, hb1, hb2, hb3, hc, hrest⟩ := hWv.ws.cons; obtain ⟨z0, z1, z2, z3, y0, y1, y2, y3, hlt2, hkw⟩ := line_box hk2; have hq0 : (1 : Int) ≤ ((r.length + 1 : Nat) : Int) := by omega))
      exact bodyPost_ret (v := .tuple #[.agg #[.int .i64 0, .string ⟨#[]⟩, .string ⟨#[]⟩, .slice none 0 0], .bool false]) (by simp [results, Tryz.results63, go_sem, z0, z1, z2, z3]) rfl ⟨keeps_new4 hkw, lineIs_no rfl⟩

end Go.Proofs.YtmgjegokkbghlaaGreatDoor
