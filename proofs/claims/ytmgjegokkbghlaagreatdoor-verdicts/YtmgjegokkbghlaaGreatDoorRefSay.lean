/- The document's say, walked. -/
import Derived.Test.YtmgjegokkbghlaaGreatDoorRefPl
namespace Go.Proofs.YtmgjegokkbghlaaGreatDoor
open Go.RowKit Go.Maps Gram Circ
set_option linter.unusedVariables false

theorem zer_at (g : ByteArray) (h : 0 < g.size) (e : g = zer) : (g[0].toNat : Int) = 48 := by subst e; rfl
theorem one_at (g : ByteArray) (h : 0 < g.size) (e : g = one) : (g[0].toNat : Int) = 49 := by subst e; rfl
theorem que_at (g : ByteArray) (h : 0 < g.size) (e : g = que) : (g[0].toNat : Int) = 63 := by subst e; rfl
theorem own_add {b o k n c b' : Nat} (h : (Value.slice (some (Addr.add ⟨b, o, none⟩ k)) n c).ownBlock = some b') : b = b' := by
  unfold Addr.add at h
  split at h <;> simpa [Value.ownBlock] using h
theorem ws_none (w : World) : WS w (.slice none 0 0) [] := ⟨none, 0, rfl, by simp, by simp, fun j hj => by simp at hj⟩
theorem bs_none (w : World) : BS w (.slice none 0 0) [] := ⟨none, 0, rfl, fun j hj => by simp at hj⟩
theorem none_block {w : Nat} : ∀ b, (Value.slice none 0 0).ownBlock = some b → w ≤ b := fun b h => by cases h
theorem comes_none {w : World} {v : Value} {e : List W} (h : WS w v e) (hl : e.length ≤ 1000) :
    Calls Tryz.prog 47 #[v, .int .i64 0, .int .i64 8, .slice none 0 0, .slice none 0 0] w fun en w' => ∃ x, en = .returned (.tuple #[.bool x, .bool (parseW e).isSome]) ∧ Keeps [] w w' := by
  refine Calls.mono (comes_any _ w v e 0 8 (.slice none 0 0) (.slice none 0 0) [] [] rfl h (by omega) (by omega) (by omega) (by omega) (ws_none _) (by simp) (bs_none _) rfl (by simp)) ?_
  rintro en w' ⟨x, ok, rfl, hc, hk⟩
  refine ⟨x, ?_, hk⟩
  have h1 := (hc (by omega)).1
  have h2 : ok = (parseW e).isSome := by
    cases hp : parseW e with
    | none =>
      cases ok with
      | false => rfl
      | true =>
        obtain ⟨ex, hg⟩ := h1.1 rfl
        have := parseW_iff.2 hg
        rw [hp] at this; cases this
    | some ex => exact h1.2 ⟨ex, parseW_iff.1 hp⟩
  rw [h2]
theorem WS.three {w : World} {v : Value} {x y z : W} {r : List W} (h : WS w v (x :: y :: z :: r)) : ∃ b o cap, v = .slice (some ⟨b, o, none⟩) (r.length + 3) cap ∧ r.length + 3 ≤ cap ∧ w.cell? ⟨b, o, none⟩ = some (.string x) ∧ w.cell? ⟨b, o + 1, none⟩ = some (.string y) ∧ w.cell? ⟨b, o + 2, none⟩ = some (.string z) := by
  obtain ⟨a, cap, h1, h2, h3, h4⟩ := h
  obtain ⟨b, o, rfl, h5, h6, h7⟩ := h4 0 (by simp)
  obtain ⟨b', o', e, _, _, h8⟩ := h4 1 (by simp)
  cases e
  obtain ⟨b', o', e, _, _, h9⟩ := h4 2 (by simp)
  cases e
  exact ⟨b, o, cap, h1, h2, h7, h8, h9⟩
theorem parse_nil : parseW [] = none := by
  cases h : parseW [] with
  | none => rfl
  | some e => exact (G_nil (parseW_iff.1 h)).elim
theorem sayIs_map {base : Nat} {res : Option Ln} {p : Option Ex} {f : Ex → Ln} {k : Int} {n : W} {e : List W} {at_ : Int} {a : Option Addr} {m c : Nat} {ok : Bool} {w' : World} (h : res = p.map f) (hok : ok = p.isSome) (hf : ∀ ex, kb (f ex).kind = k ∧ (f ex).name = n ∧ atB (f ex).first = at_ ∧ (f ex).ws = e) (hw : WS w' (.slice a m c) e) (hb : ∀ b, (Value.slice a m c).ownBlock = some b → base ≤ b) : SayIs base res (.returned (.tuple #[.agg #[.int .u8 k, .string n, .int .u8 at_, .slice a m c], .bool ok])) w' := by
  subst h
  cases p with
  | none => subst hok; exact ⟨_, _, _, _, _, _, rfl⟩
  | some ex =>
    subst hok
    obtain ⟨h1, h2, h3, h4⟩ := hf ex
    refine ⟨a, m, c, ?_, ?_, hb⟩
    · rw [h1, h2, h3]; rfl
    · rw [h4]; exact hw
theorem new4_keeps (w w2 : World) {a b c d : Value} : Keeps [w.heap.size] w2 ((((w2.setCell ⟨w.heap.size, 0, none⟩ a).setCell ⟨w.heap.size, 1, none⟩ b).setCell ⟨w.heap.size, 2, none⟩ c).setCell ⟨w.heap.size, 3, none⟩ d) :=
  ((((Keeps.refl _ _).setCell _ (Or.inl (by simp)) _).setCell _ (Or.inl (by simp)) _).setCell _ (Or.inl (by simp)) _).setCell _ (Or.inl (by simp)) _

set_option maxRecDepth 100000 in
set_option maxHeartbeats 4000000 in
theorem rsay_any {w : World} (s : ByteArray) (hs : s.size ≤ 1000) :
    Calls Tryz.prog 16 #[.string s] w fun e w' => Keeps [] w w' ∧ SayIs w.heap.size (sayOf (bl s)) e w' := by
  have HS := hid_intro hs
  clear hs
  go_enter Tryz.func16, Tryz.ntmps16
  go_wp2_with fail
  refine Calls.mono (rwords_any s HS.out) ?_
  rintro e w1 ⟨hk1, hsp⟩
  have hRX : w.heap.size < w1.heap.size := by have := hk1.size; simp at this; omega
  have lR := (lnAt_new w).keeps hk1 (by simp)
  have hkw1 : Keeps [] w w1 := ((Keeps.refl [] w).alloc _).trans hk1
  have hRX1 : ¬ w.heap.size = w1.heap.size := by omega
  have hRX2 : ¬ w1.heap.size = w.heap.size := by omega
  have hbase : w.heap.size ≤ (w.alloc (.cells #[.int .u8 0, .string ⟨#[]⟩, .int .u8 0, .slice none 0 0] 59)).heap.size := by simp
  cases hws : wordsOf (bl s) with
  | none =>
    obtain rfl := hsp.no hws
    have HR : Hid (sayOf (bl s) = none) := by show _ = _; unfold sayOf; rw [hws]
    clear hws hsp hk1
    go_upto_region 3 with fail
    obtain ⟨W, hW⟩ : ∃ W, W = w1.alloc (.cells #[.int .u8 0, .string ⟨#[]⟩, .int .u8 0, .slice none 0 0] 59) := ⟨_, rfl⟩
    have hkW : Keeps [] w1 W := by rw [hW]; exact (Keeps.refl _ _).alloc _
    have lX : LnAt W w1.heap.size 0 ⟨#[]⟩ 0 (.slice none 0 0) := by rw [hW]; exact lnAt_new w1
    have lR' := lR.keeps hkW (by simp)
    rw [← hW]
    clear hW lR
    obtain ⟨x0, x1, x2, x3, fx0, fx1, fx2, fx3⟩ := lX
    obtain ⟨z0, z1, z2, z3, fz0, fz1, fz2, fz3⟩ := lR'
    go_wp2_with fail
    refine bodyPost_ret (v := .tuple #[.agg #[.int .u8 0, .string ⟨#[]⟩, .int .u8 0, .slice none 0 0], .bool false]) (by simp [results, Tryz.results16, go_sem, z0, z1, z2, z3]) rfl ⟨keeps_new4 (hkw1.trans hkW), sayIs_no HR.out⟩
  | some ws =>
    obtain ⟨v, rfl, hWv, hlen⟩ := hsp.yes hws
    have HL : Hid (ws.length ≤ 1000) := hlen
    have hsay : sayOf (bl s) = lineOf ws := by unfold sayOf; rw [hws]
    have hlow : ∀ b, v.ownBlock = some b → w.heap.size < b := fun b hb => by
      have := (hWv.lt b hb).1
      simp at this
      omega
    have HLow := hid_intro hlow
    have hWs := hWv.ws
    have HWs := hid_intro hWs
    have HSay := hid_intro hsay
    clear hws hsp hk1 hlen hsay hlow hbase HS
    obtain ⟨va, vn, vc, rfl⟩ : ∃ a n c, v = .slice a n c := by
      obtain ⟨a, cap, e, _⟩ := hWs.shape
      exact ⟨_, _, _, e⟩
    clear hWv
    go_upto_region 3 with fail
    obtain ⟨W, hW⟩ : ∃ W, W = w1.alloc (.cells #[.int .u8 0, .string ⟨#[]⟩, .int .u8 0, .slice none 0 0] 59) := ⟨_, rfl⟩
    have hkW : Keeps [] w1 W := by rw [hW]; exact (Keeps.refl _ _).alloc _
    have lX : LnAt W w1.heap.size 0 ⟨#[]⟩ 0 (.slice none 0 0) := by rw [hW]; exact lnAt_new w1
    have lR' := lR.keeps hkW (by simp)
    have LR := hid_intro lR'
    have hkWw : Keeps [] w W := hkw1.trans hkW
    rw [← hW]
    clear hW lR
    have LX := hid_intro lX
    obtain ⟨x0, x1, x2, x3, fx0, fx1, fx2, fx3⟩ := lX
    obtain ⟨z0, z1, z2, z3, fz0, fz1, fz2, fz3⟩ := lR'
    cases ws with
    | nil =>
      obtain ⟨a', c', e⟩ := hWs.nil
      cases e
      clear hWs HWs HLow
      go_wp2_with fail
      exact bodyPost_ret (v := .tuple #[.agg #[.int .u8 0, .string ⟨#[]⟩, .int .u8 0, .slice none 0 0], .bool true]) (by simp [results, Tryz.results16, go_sem, z0, z1, z2, z3]) rfl ⟨keeps_new4 hkWw, by rw [HSay.out]; exact ⟨none, 0, 0, rfl, ws_none _, none_block⟩⟩
    | cons x ws =>
      have HSay2 : Hid (sayOf (bl s) = if x = bIn then inputOf ws else if x = bLatch then latchOf ws else if x = bNext then nextOfW ws else if x = bBad then badOfW ws else none) := HSay.out.trans (lineOf_cons x ws)
      clear HSay
      cases ws with
      | nil =>
        obtain ⟨b, o, cap, e, h1, h2, h3, hc, _⟩ := hWs.cons
        cases e
        have hc := hkW.cell hc (by simp)
        clear hWs HWs HLow h1 h2 h3
        cases e105 : decide (x = bIn)
        rotate_left
        · have q := lit_eq x [105, 110] _ e105
          have HR := hid_intro (HSay2.out.trans (if_pos (of_decide_eq_true e105 : x = bIn)))
          clear e105
          go_wp2_with fail
          exact bodyPost_ret (v := .tuple #[.agg #[.int .u8 105, .string ⟨#[]⟩, .int .u8 0, .slice none 0 0], .bool false]) (by simp [results, Tryz.results16, go_sem, z0, z1, z2, z3]) rfl ⟨keeps_new4 (hkWw.setCell ⟨w1.heap.size, 0, none⟩ (Or.inr (by show w.heap.size ≤ w1.heap.size; omega)) _), sayIs_no HR.out⟩
        have q105 := lit_eq x [105, 110] _ e105
        replace HSay2 := hid_intro (HSay2.out.trans (if_neg (of_decide_eq_false e105 : ¬ x = bIn)))
        clear e105
        cases e108 : decide (x = bLatch)
        rotate_left
        · have q := lit_eq x [108, 97, 116, 99, 104] _ e108
          have HR := hid_intro (HSay2.out.trans (if_pos (of_decide_eq_true e108 : x = bLatch)))
          clear e108
          go_wp2_with fail
          exact bodyPost_ret (v := .tuple #[.agg #[.int .u8 108, .string ⟨#[]⟩, .int .u8 0, .slice none 0 0], .bool false]) (by simp [results, Tryz.results16, go_sem, z0, z1, z2, z3]) rfl ⟨keeps_new4 (hkWw.setCell ⟨w1.heap.size, 0, none⟩ (Or.inr (by show w.heap.size ≤ w1.heap.size; omega)) _), sayIs_no HR.out⟩
        have q108 := lit_eq x [108, 97, 116, 99, 104] _ e108
        replace HSay2 := hid_intro (HSay2.out.trans (if_neg (of_decide_eq_false e108 : ¬ x = bLatch)))
        clear e108
        cases e110 : decide (x = bNext)
        rotate_left
        · have q := lit_eq x [110, 101, 120, 116] _ e110
          have HR := hid_intro (HSay2.out.trans (if_pos (of_decide_eq_true e110 : x = bNext)))
          clear e110
          go_wp2_with fail
          exact bodyPost_ret (v := .tuple #[.agg #[.int .u8 110, .string ⟨#[]⟩, .int .u8 0, .slice none 0 0], .bool false]) (by simp [results, Tryz.results16, go_sem, z0, z1, z2, z3]) rfl ⟨keeps_new4 (hkWw.setCell ⟨w1.heap.size, 0, none⟩ (Or.inr (by show w.heap.size ≤ w1.heap.size; omega)) _), sayIs_no HR.out⟩
        have q110 := lit_eq x [110, 101, 120, 116] _ e110
        replace HSay2 := hid_intro (HSay2.out.trans (if_neg (of_decide_eq_false e110 : ¬ x = bNext)))
        clear e110
        cases e98 : decide (x = bBad)
        rotate_left
        · have q := lit_eq x [98, 97, 100] _ e98
          have HR := hid_intro (HSay2.out.trans (if_pos (of_decide_eq_true e98 : x = bBad)))
          clear e98
          go_wp2_with fail
          exact bodyPost_ret (v := .tuple #[.agg #[.int .u8 98, .string ⟨#[]⟩, .int .u8 0, .slice none 0 0], .bool false]) (by simp [results, Tryz.results16, go_sem, z0, z1, z2, z3]) rfl ⟨keeps_new4 (hkWw.setCell ⟨w1.heap.size, 0, none⟩ (Or.inr (by show w.heap.size ≤ w1.heap.size; omega)) _), sayIs_no HR.out⟩
        have q98 := lit_eq x [98, 97, 100] _ e98
        replace HSay2 := hid_intro (HSay2.out.trans (if_neg (of_decide_eq_false e98 : ¬ x = bBad)))
        clear e98
        go_wp2_with fail
        exact bodyPost_ret (v := .tuple #[.agg #[.int .u8 0, .string ⟨#[]⟩, .int .u8 0, .slice none 0 0], .bool false]) (by simp [results, Tryz.results16, go_sem, z0, z1, z2, z3]) rfl ⟨keeps_new4 hkWw, sayIs_no HSay2.out⟩
      | cons y r =>
        obtain ⟨b, o, cap, e, h1, h2, h3, hc, hc1, _⟩ := hWs.two
        cases e
        have hbX1 : ¬ b = w1.heap.size := by omega
        have hbX2 : ¬ w1.heap.size = b := by omega
        have hbR : w.heap.size < b := HLow.out b rfl
        have hc := hkW.cell hc (by simp)
        have hc1 := hkW.cell hc1 (by simp)
        obtain ⟨n, hn⟩ : ∃ n, n = r.length + 2 := ⟨_, rfl⟩
        rw [← hn] at h1 HWs HLow ⊢
        have HN := hid_intro hn
        have hn1 : (1 : Int) < (n : Int) := by omega
        have hn2 : ¬ ((n : Int) == 0) = true := by simp; omega
        have hn0 : (0 : Int) < (n : Int) := by omega
        have hq1 : ((n : Int) == 0) = false := by simp; omega
        have hnb : n ≤ 1000 := by have := HL.out; simp at this; omega
        clear hWs h2 h3 hn HL
        go_wp2_with fail
        refine Calls.mono (risName_any y) ?_
        rintro e w2 ⟨rfl, rfl⟩
        obtain ⟨nm, hnm⟩ : ∃ nm, nm = isName y := ⟨_, rfl⟩
        rw [← hnm]
        have HNm := hid_intro hnm
        clear hnm
        have HSt := hid_intro hkWw
        cases e105 : decide (x = bIn)
        rotate_left
        · have q := lit_eq x [105, 110] _ e105
          have HR0 := hid_intro (HSay2.out.trans (if_pos (of_decide_eq_true e105 : x = bIn)))
          clear e105 HSay2
          by_cases hr : n = 2
          · obtain rfl : r = [] := List.length_eq_zero_iff.1 (by have := HN.out; omega)
            have hi2 : ((n : Int) == 2) = true := by simp; omega
            cases nm
            · have HR : Hid (sayOf (bl s) = none) := HR0.out.trans (by show (if isName y = true then _ else none) = none; rw [← HNm.out]; rfl)
              clear HR0 hr
              go_wp2_with fail
              exact bodyPost_ret (v := .tuple #[.agg #[.int .u8 105, .string ⟨#[]⟩, .int .u8 0, .slice none 0 0], .bool false]) (by simp [results, Tryz.results16, go_sem, z0, z1, z2, z3]) rfl ⟨keeps_new4 (hkWw.setCell ⟨w1.heap.size, 0, none⟩ (Or.inr (by show w.heap.size ≤ w1.heap.size; omega)) _), sayIs_no HR.out⟩
            · have HR : Hid (sayOf (bl s) = some ⟨1, y, emp, [], .lit false⟩) := HR0.out.trans (by show (if isName y = true then _ else none) = _; rw [← HNm.out]; rfl)
              clear HR0 hr
              go_wp2_with fail
              exact bodyPost_ret (v := .tuple #[.agg #[.int .u8 105, .string y, .int .u8 0, .slice none 0 0], .bool true]) (by simp [results, Tryz.results16, go_sem, z0, z1, z2, z3]) rfl ⟨keeps_new4 ((hkWw.setCell ⟨w1.heap.size, 0, none⟩ (Or.inr (by show w.heap.size ≤ w1.heap.size; omega)) _).setCell ⟨w1.heap.size, 1, none⟩ (Or.inr (by show w.heap.size ≤ w1.heap.size; omega)) _), by rw [HR.out]; exact ⟨none, 0, 0, rfl, ws_none _, none_block⟩⟩
          · have hi2 : ((n : Int) == 2) = false := by simp; omega
            have HR : Hid (sayOf (bl s) = none) := HR0.out.trans (by
              cases r with
              | nil => exact absurd HN.out hr
              | cons z t => rfl)
            clear HR0 hr
            cases nm
            all_goals
              go_wp2_with fail
              exact bodyPost_ret (v := .tuple #[.agg #[.int .u8 105, .string ⟨#[]⟩, .int .u8 0, .slice none 0 0], .bool false]) (by simp [results, Tryz.results16, go_sem, z0, z1, z2, z3]) rfl ⟨keeps_new4 (hkWw.setCell ⟨w1.heap.size, 0, none⟩ (Or.inr (by show w.heap.size ≤ w1.heap.size; omega)) _), sayIs_no HR.out⟩
        have q105 := lit_eq x [105, 110] _ e105
        replace HSay2 := hid_intro (HSay2.out.trans (if_neg (of_decide_eq_false e105 : ¬ x = bIn)))
        clear e105
        cases e108 : decide (x = bLatch)
        rotate_left
        · have q := lit_eq x [108, 97, 116, 99, 104] _ e108
          have HR0 := hid_intro (HSay2.out.trans (if_pos (of_decide_eq_true e108 : x = bLatch)))
          clear e108 HSay2
          by_cases hr : n = 3
          · obtain ⟨f, rfl⟩ : ∃ f, r = [f] := by
              have := HN.out
              match r with
              | [f] => exact ⟨f, rfl⟩
              | [] => simp at this; omega
              | _ :: _ :: _ => simp at this; omega
            obtain ⟨b', o', cap', e', _, _, _, hc2⟩ := HWs.out.three
            obtain ⟨rfl, rfl⟩ : b = b' ∧ o = o' := by simp at e'; exact ⟨e'.1.1, e'.1.2⟩
            clear e'
            have hc2 := hkW.cell hc2 (by simp)
            have hi3 : ((n : Int) == 3) = true := by simp; omega
            have hn3 : (2 : Int) < (n : Int) := by omega
            cases nm
            · have HR : Hid (sayOf (bl s) = none) := HR0.out.trans (by show (if (isName y && isFirst f) = true then _ else none) = none; rw [← HNm.out]; rfl)
              clear HR0 hr HWs HLow
              go_wp2_with fail
              exact bodyPost_ret (v := .tuple #[.agg #[.int .u8 108, .string ⟨#[]⟩, .int .u8 0, .slice none 0 0], .bool false]) (by simp [results, Tryz.results16, go_sem, z0, z1, z2, z3]) rfl ⟨keeps_new4 (hkWw.setCell ⟨w1.heap.size, 0, none⟩ (Or.inr (by show w.heap.size ≤ w1.heap.size; omega)) _), sayIs_no HR.out⟩
            · cases e48 : decide (f = zer)
              rotate_left
              · have hff : f = zer := of_decide_eq_true e48
                have q48 := lit_eq f [48] _ e48
                have hfz : 0 < f.size := by rw [hff]; decide
                have hfzi : (0 : Int) < (f.size : Int) := by omega
                have e0 : (f[0].toNat : Int) = 48 := zer_at f hfz hff
                have HR : Hid (sayOf (bl s) = some ⟨2, y, zer, [], .lit false⟩) := HR0.out.trans (by show (if (isName y && isFirst f) = true then _ else none) = _; rw [← HNm.out, hff]; rfl)
                clear HR0 hr HWs HLow e48 hff
                go_wp2_with fail
                exact bodyPost_ret (v := .tuple #[.agg #[.int .u8 108, .string y, .int .u8 48, .slice none 0 0], .bool true]) (by simp [results, Tryz.results16, go_sem, z0, z1, z2, z3]) rfl ⟨keeps_new4 (((hkWw.setCell ⟨w1.heap.size, 0, none⟩ (Or.inr (by show w.heap.size ≤ w1.heap.size; omega)) _).setCell ⟨w1.heap.size, 2, none⟩ (Or.inr (by show w.heap.size ≤ w1.heap.size; omega)) _).setCell ⟨w1.heap.size, 1, none⟩ (Or.inr (by show w.heap.size ≤ w1.heap.size; omega)) _), by rw [HR.out]; exact ⟨none, 0, 0, rfl, ws_none _, none_block⟩⟩
              cases e49 : decide (f = one)
              rotate_left
              · have hff : f = one := of_decide_eq_true e49
                have q48 := lit_eq f [48] _ e48
                have q49 := lit_eq f [49] _ e49
                have hfz : 0 < f.size := by rw [hff]; decide
                have hfzi : (0 : Int) < (f.size : Int) := by omega
                have e0 : (f[0].toNat : Int) = 49 := one_at f hfz hff
                have HR : Hid (sayOf (bl s) = some ⟨2, y, one, [], .lit false⟩) := HR0.out.trans (by show (if (isName y && isFirst f) = true then _ else none) = _; rw [← HNm.out, hff]; rfl)
                clear HR0 hr HWs HLow e48 e49 hff
                go_wp2_with fail
                exact bodyPost_ret (v := .tuple #[.agg #[.int .u8 108, .string y, .int .u8 49, .slice none 0 0], .bool true]) (by simp [results, Tryz.results16, go_sem, z0, z1, z2, z3]) rfl ⟨keeps_new4 (((hkWw.setCell ⟨w1.heap.size, 0, none⟩ (Or.inr (by show w.heap.size ≤ w1.heap.size; omega)) _).setCell ⟨w1.heap.size, 2, none⟩ (Or.inr (by show w.heap.size ≤ w1.heap.size; omega)) _).setCell ⟨w1.heap.size, 1, none⟩ (Or.inr (by show w.heap.size ≤ w1.heap.size; omega)) _), by rw [HR.out]; exact ⟨none, 0, 0, rfl, ws_none _, none_block⟩⟩
              cases e63 : decide (f = que)
              rotate_left
              · have hff : f = que := of_decide_eq_true e63
                have q48 := lit_eq f [48] _ e48
                have q49 := lit_eq f [49] _ e49
                have q63 := lit_eq f [63] _ e63
                have hfz : 0 < f.size := by rw [hff]; decide
                have hfzi : (0 : Int) < (f.size : Int) := by omega
                have e0 : (f[0].toNat : Int) = 63 := que_at f hfz hff
                have HR : Hid (sayOf (bl s) = some ⟨2, y, que, [], .lit false⟩) := HR0.out.trans (by show (if (isName y && isFirst f) = true then _ else none) = _; rw [← HNm.out, hff]; rfl)
                clear HR0 hr HWs HLow e48 e49 e63 hff
                go_wp2_with fail
                exact bodyPost_ret (v := .tuple #[.agg #[.int .u8 108, .string y, .int .u8 63, .slice none 0 0], .bool true]) (by simp [results, Tryz.results16, go_sem, z0, z1, z2, z3]) rfl ⟨keeps_new4 (((hkWw.setCell ⟨w1.heap.size, 0, none⟩ (Or.inr (by show w.heap.size ≤ w1.heap.size; omega)) _).setCell ⟨w1.heap.size, 2, none⟩ (Or.inr (by show w.heap.size ≤ w1.heap.size; omega)) _).setCell ⟨w1.heap.size, 1, none⟩ (Or.inr (by show w.heap.size ≤ w1.heap.size; omega)) _), by rw [HR.out]; exact ⟨none, 0, 0, rfl, ws_none _, none_block⟩⟩
              have q48 := lit_eq f [48] _ e48
              have q49 := lit_eq f [49] _ e49
              have q63 := lit_eq f [63] _ e63
              have HR : Hid (sayOf (bl s) = none) := HR0.out.trans (by
                show (if (isName y && isFirst f) = true then _ else none) = none
                unfold isFirst
                rw [e48, e49, e63, ← HNm.out]; rfl)
              clear HR0 hr HWs HLow e48 e49 e63
              go_wp2_with fail
              exact bodyPost_ret (v := .tuple #[.agg #[.int .u8 108, .string ⟨#[]⟩, .int .u8 0, .slice none 0 0], .bool false]) (by simp [results, Tryz.results16, go_sem, z0, z1, z2, z3]) rfl ⟨keeps_new4 (hkWw.setCell ⟨w1.heap.size, 0, none⟩ (Or.inr (by show w.heap.size ≤ w1.heap.size; omega)) _), sayIs_no HR.out⟩
          · have hi2 : ((n : Int) == 3) = false := by simp; omega
            have HR : Hid (sayOf (bl s) = none) := HR0.out.trans (by
              cases r with
              | nil => rfl
              | cons z t =>
                cases t with
                | nil => exact absurd HN.out hr
                | cons z t => rfl)
            clear HR0 hr HWs HLow
            cases nm
            all_goals
              go_wp2_with fail
              exact bodyPost_ret (v := .tuple #[.agg #[.int .u8 108, .string ⟨#[]⟩, .int .u8 0, .slice none 0 0], .bool false]) (by simp [results, Tryz.results16, go_sem, z0, z1, z2, z3]) rfl ⟨keeps_new4 (hkWw.setCell ⟨w1.heap.size, 0, none⟩ (Or.inr (by show w.heap.size ≤ w1.heap.size; omega)) _), sayIs_no HR.out⟩
        have q108 := lit_eq x [108, 97, 116, 99, 104] _ e108
        replace HSay2 := hid_intro (HSay2.out.trans (if_neg (of_decide_eq_false e108 : ¬ x = bLatch)))
        clear e108
        cases e110 : decide (x = bNext)
        rotate_left
        · have q := lit_eq x [110, 101, 120, 116] _ e110
          have HR0 := hid_intro (HSay2.out.trans (if_pos (of_decide_eq_true e110 : x = bNext)))
          clear e110 HSay2
          by_cases hr : 3 < n
          · obtain ⟨q2, z, e, rfl⟩ : ∃ q2 z e, r = q2 :: z :: e := by
              have := HN.out
              match r with
              | q2 :: z :: e => exact ⟨q2, z, e, rfl⟩
              | [] => simp at this; omega
              | [_] => simp at this; omega
            obtain ⟨b', o', cap', e', _, _, _, hc2⟩ := HWs.out.three
            obtain ⟨rfl, rfl⟩ : b = b' ∧ o = o' := by simp at e'; exact ⟨e'.1.1, e'.1.2⟩
            clear e'
            have hc2 := hkW.cell hc2 (by simp)
            have hi3 : (3 : Int) < (n : Int) := by omega
            have hi2 : (2 : Int) < (n : Int) := by omega
            cases nm
            · have HR : Hid (sayOf (bl s) = none) := HR0.out.trans (by show (if (isName y && decide (q2 = eqs)) = true then _ else none) = none; rw [← HNm.out]; rfl)
              clear HR0 hr HWs HLow
              go_wp2_with fail
              exact bodyPost_ret (v := .tuple #[.agg #[.int .u8 110, .string ⟨#[]⟩, .int .u8 0, .slice none 0 0], .bool false]) (by simp [results, Tryz.results16, go_sem, z0, z1, z2, z3]) rfl ⟨keeps_new4 (hkWw.setCell ⟨w1.heap.size, 0, none⟩ (Or.inr (by show w.heap.size ≤ w1.heap.size; omega)) _), sayIs_no HR.out⟩
            · cases e61 : decide (q2 = eqs)
              · have q61 := lit_eq q2 [61] _ e61
                have HR : Hid (sayOf (bl s) = none) := HR0.out.trans (by show (if (isName y && decide (q2 = eqs)) = true then _ else none) = none; rw [e61, ← HNm.out]; rfl)
                clear HR0 hr HWs HLow e61
                go_wp2_with fail
                exact bodyPost_ret (v := .tuple #[.agg #[.int .u8 110, .string ⟨#[]⟩, .int .u8 0, .slice none 0 0], .bool false]) (by simp [results, Tryz.results16, go_sem, z0, z1, z2, z3]) rfl ⟨keeps_new4 (hkWw.setCell ⟨w1.heap.size, 0, none⟩ (Or.inr (by show w.heap.size ≤ w1.heap.size; omega)) _), sayIs_no HR.out⟩
              · have q61 := lit_eq q2 [61] _ e61
                have HR : Hid (sayOf (bl s) = (parseW (z :: e)).map fun ex => ⟨3, y, emp, z :: e, ex⟩) := HR0.out.trans (by show (if (isName y && decide (q2 = eqs)) = true then _ else none) = _; rw [e61, ← HNm.out]; rfl)
                have hcw := cut_ws (f := 3) (g := n) (t := n - 3) HWs.out (by have := HN.out; simp at this ⊢; omega) (by have := HN.out; simp at this ⊢; omega) (by omega) rfl
                rw [show ((x :: y :: q2 :: z :: e).drop 3).take (n - 3) = z :: e by
                  have := HN.out
                  simp only [List.drop_succ_cons, List.drop_zero]
                  exact List.take_of_length_le (by simp at this ⊢; omega)] at hcw
                unfold cutV at hcw
                rw [if_neg (by omega)] at hcw
                have hel : (z :: e).length ≤ 1000 := by have := HN.out; simp at this ⊢; omega
                have HEl := hid_intro hel
                have HCw := hid_intro hcw
                have hm0 : (0 : Int) < ((n - 3 : Nat) : Int) := by omega
                have hm1 : (3 : Int) ≤ (n : Int) := by omega
                have hcap3 : ¬ vc = 3 := by omega
                clear HR0 hr HWs HLow e61 hcw hel
                go_wp2_with fail
                refine Calls.mono (comes_none (HCw.out.keeps (((hkW.setCell ⟨w1.heap.size, 0, none⟩ (Or.inr (Nat.le_refl _)) _).setCell ⟨w1.heap.size, 3, none⟩ (Or.inr (Nat.le_refl _)) _).setCell ⟨w1.heap.size, 1, none⟩ (Or.inr (Nat.le_refl _)) _)) HEl.out) ?_
                rintro en w2 ⟨xx, rfl, hk2⟩
                have lX2 := (((LX.out.set0 110).set3 (.slice (some (Addr.add ⟨b, o, none⟩ 3)) (n - 3) (vc - 3))).set1 y).keeps hk2 (by simp)
                have lR2 := (LR.out.keeps ((((Keeps.refl [w1.heap.size] W).setCell ⟨w1.heap.size, 0, none⟩ (Or.inl (by simp)) (.int .u8 110)).setCell ⟨w1.heap.size, 3, none⟩ (Or.inl (by simp)) (.slice (some (Addr.add ⟨b, o, none⟩ 3)) (n - 3) (vc - 3))).setCell ⟨w1.heap.size, 1, none⟩ (Or.inl (by simp)) (.string y)) (by simp [hRX1])).keeps hk2 (by simp)
                have hkf : Keeps [] w w2 := (((hkWw.setCell ⟨w1.heap.size, 0, none⟩ (Or.inr (by show w.heap.size ≤ w1.heap.size; omega)) _).setCell ⟨w1.heap.size, 3, none⟩ (Or.inr (by show w.heap.size ≤ w1.heap.size; omega)) _).setCell ⟨w1.heap.size, 1, none⟩ (Or.inr (by show w.heap.size ≤ w1.heap.size; omega)) _).trans hk2
                have HWf := hid_intro (HCw.out.keeps ((((hkW.setCell ⟨w1.heap.size, 0, none⟩ (Or.inr (Nat.le_refl _)) (.int .u8 110)).setCell ⟨w1.heap.size, 3, none⟩ (Or.inr (Nat.le_refl _)) (.slice (some (Addr.add ⟨b, o, none⟩ 3)) (n - 3) (vc - 3))).setCell ⟨w1.heap.size, 1, none⟩ (Or.inr (Nat.le_refl _)) (.string y)).trans hk2))
                clear x0 x1 x2 x3 fx0 fx1 fx2 fx3 z0 z1 z2 z3 fz0 fz1 fz2 fz3 hc hc1 hc2 hk2 hkW hkWw
                obtain ⟨x0, x1, x2, x3, fx0, fx1, fx2, fx3⟩ := lX2
                obtain ⟨z0, z1, z2, z3, fz0, fz1, fz2, fz3⟩ := lR2
                obtain ⟨ok, hok⟩ : ∃ ok, ok = (parseW (z :: e)).isSome := ⟨_, rfl⟩
                rw [← hok]
                have HOk := hid_intro hok
                clear hok
                go_wp2_with fail
                exact bodyPost_ret (v := .tuple #[.agg #[.int .u8 110, .string y, .int .u8 0, .slice (some (Addr.add ⟨b, o, none⟩ 3)) (n - 3) (vc - 3)], .bool ok]) (by simp [results, Tryz.results16, go_sem, z0, z1, z2, z3]) rfl ⟨keeps_new4 hkf, sayIs_map HR.out HOk.out (fun ex => ⟨rfl, rfl, rfl, rfl⟩) (HWf.out.off (new4_keeps w w2) (fun b' hb' => by have := own_add hb'; omega)) (fun b' hb' => by have := own_add hb'; omega)⟩
          · have hi2 : ¬ (3 : Int) < (n : Int) := by omega
            have HR : Hid (sayOf (bl s) = none) := HR0.out.trans (by
              have := HN.out
              match r with
              | [] => rfl
              | [q2] =>
                show (if (isName y && decide (q2 = eqs)) = true then (parseW []).map _ else none) = none
                rw [parse_nil]; split <;> rfl
              | _ :: _ :: _ => simp at this; omega)
            clear HR0 hr HWs HLow
            cases nm
            all_goals
              go_wp2_with fail
              exact bodyPost_ret (v := .tuple #[.agg #[.int .u8 110, .string ⟨#[]⟩, .int .u8 0, .slice none 0 0], .bool false]) (by simp [results, Tryz.results16, go_sem, z0, z1, z2, z3]) rfl ⟨keeps_new4 (hkWw.setCell ⟨w1.heap.size, 0, none⟩ (Or.inr (by show w.heap.size ≤ w1.heap.size; omega)) _), sayIs_no HR.out⟩
        have q110 := lit_eq x [110, 101, 120, 116] _ e110
        replace HSay2 := hid_intro (HSay2.out.trans (if_neg (of_decide_eq_false e110 : ¬ x = bNext)))
        clear e110
        cases e98 : decide (x = bBad)
        rotate_left
        · have q := lit_eq x [98, 97, 100] _ e98
          have HR0 := hid_intro (HSay2.out.trans (if_pos (of_decide_eq_true e98 : x = bBad)))
          clear e98 HSay2
          by_cases hr : 2 < n
          · obtain ⟨z, e, rfl⟩ : ∃ z e, r = z :: e := by
              have := HN.out
              match r with
              | z :: e => exact ⟨z, e, rfl⟩
              | [] => simp at this; omega
            have hi2 : (2 : Int) < (n : Int) := by omega
            cases e61 : decide (y = eqs)
            · have q61 := lit_eq y [61] _ e61
              have HR : Hid (sayOf (bl s) = none) := HR0.out.trans (by show (if y = eqs then _ else none) = none; rw [if_neg (of_decide_eq_false e61)])
              clear HR0 hr HWs HLow e61
              go_wp2_with fail
              exact bodyPost_ret (v := .tuple #[.agg #[.int .u8 98, .string ⟨#[]⟩, .int .u8 0, .slice none 0 0], .bool false]) (by simp [results, Tryz.results16, go_sem, z0, z1, z2, z3]) rfl ⟨keeps_new4 (hkWw.setCell ⟨w1.heap.size, 0, none⟩ (Or.inr (by show w.heap.size ≤ w1.heap.size; omega)) _), sayIs_no HR.out⟩
            · have q61 := lit_eq y [61] _ e61
              have HR : Hid (sayOf (bl s) = (parseW (z :: e)).map fun ex => ⟨4, emp, emp, z :: e, ex⟩) := HR0.out.trans (by show (if y = eqs then _ else none) = _; rw [if_pos (of_decide_eq_true e61)])
              have hcw := cut_ws (f := 2) (g := n) (t := n - 2) HWs.out (by have := HN.out; simp at this ⊢; omega) (by have := HN.out; simp at this ⊢; omega) (by omega) rfl
              rw [show ((x :: y :: z :: e).drop 2).take (n - 2) = z :: e by
                have := HN.out
                simp only [List.drop_succ_cons, List.drop_zero]
                exact List.take_of_length_le (by simp at this ⊢; omega)] at hcw
              unfold cutV at hcw
              rw [if_neg (by omega)] at hcw
              have hel : (z :: e).length ≤ 1000 := by have := HN.out; simp at this ⊢; omega
              have HEl := hid_intro hel
              have HCw := hid_intro hcw
              have hm0 : (0 : Int) < ((n - 2 : Nat) : Int) := by omega
              have hm1 : (2 : Int) ≤ (n : Int) := by omega
              have hcap3 : ¬ vc = 2 := by omega
              clear HR0 hr HWs HLow e61 hcw hel
              go_wp2_with fail
              refine Calls.mono (comes_none (HCw.out.keeps ((hkW.setCell ⟨w1.heap.size, 0, none⟩ (Or.inr (Nat.le_refl _)) _).setCell ⟨w1.heap.size, 3, none⟩ (Or.inr (Nat.le_refl _)) _)) HEl.out) ?_
              rintro en w2 ⟨xx, rfl, hk2⟩
              have lX2 := ((LX.out.set0 98).set3 (.slice (some (Addr.add ⟨b, o, none⟩ 2)) (n - 2) (vc - 2))).keeps hk2 (by simp)
              have lR2 := (LR.out.keeps (((Keeps.refl [w1.heap.size] W).setCell ⟨w1.heap.size, 0, none⟩ (Or.inl (by simp)) (.int .u8 98)).setCell ⟨w1.heap.size, 3, none⟩ (Or.inl (by simp)) (.slice (some (Addr.add ⟨b, o, none⟩ 2)) (n - 2) (vc - 2))) (by simp [hRX1])).keeps hk2 (by simp)
              have hkf : Keeps [] w w2 := ((hkWw.setCell ⟨w1.heap.size, 0, none⟩ (Or.inr (by show w.heap.size ≤ w1.heap.size; omega)) _).setCell ⟨w1.heap.size, 3, none⟩ (Or.inr (by show w.heap.size ≤ w1.heap.size; omega)) _).trans hk2
              have HWf := hid_intro (HCw.out.keeps (((hkW.setCell ⟨w1.heap.size, 0, none⟩ (Or.inr (Nat.le_refl _)) (.int .u8 98)).setCell ⟨w1.heap.size, 3, none⟩ (Or.inr (Nat.le_refl _)) (.slice (some (Addr.add ⟨b, o, none⟩ 2)) (n - 2) (vc - 2))).trans hk2))
              clear x0 x1 x2 x3 fx0 fx1 fx2 fx3 z0 z1 z2 z3 fz0 fz1 fz2 fz3 hc hc1 hk2 hkW hkWw
              obtain ⟨x0, x1, x2, x3, fx0, fx1, fx2, fx3⟩ := lX2
              obtain ⟨z0, z1, z2, z3, fz0, fz1, fz2, fz3⟩ := lR2
              obtain ⟨ok, hok⟩ : ∃ ok, ok = (parseW (z :: e)).isSome := ⟨_, rfl⟩
              rw [← hok]
              have HOk := hid_intro hok
              clear hok
              go_wp2_with fail
              exact bodyPost_ret (v := .tuple #[.agg #[.int .u8 98, .string ⟨#[]⟩, .int .u8 0, .slice (some (Addr.add ⟨b, o, none⟩ 2)) (n - 2) (vc - 2)], .bool ok]) (by simp [results, Tryz.results16, go_sem, z0, z1, z2, z3]) rfl ⟨keeps_new4 hkf, sayIs_map HR.out HOk.out (fun ex => ⟨rfl, rfl, rfl, rfl⟩) (HWf.out.off (new4_keeps w w2) (fun b' hb' => by have := own_add hb'; omega)) (fun b' hb' => by have := own_add hb'; omega)⟩
          · have hi2 : ¬ (2 : Int) < (n : Int) := by omega
            have HR : Hid (sayOf (bl s) = none) := HR0.out.trans (by
              have := HN.out
              match r with
              | [] =>
                show (if y = eqs then (parseW []).map _ else none) = none
                rw [parse_nil]; split <;> rfl
              | _ :: _ => simp at this; omega)
            clear HR0 hr HWs HLow
            go_wp2_with fail
            exact bodyPost_ret (v := .tuple #[.agg #[.int .u8 98, .string ⟨#[]⟩, .int .u8 0, .slice none 0 0], .bool false]) (by simp [results, Tryz.results16, go_sem, z0, z1, z2, z3]) rfl ⟨keeps_new4 (hkWw.setCell ⟨w1.heap.size, 0, none⟩ (Or.inr (by show w.heap.size ≤ w1.heap.size; omega)) _), sayIs_no HR.out⟩
        have q98 := lit_eq x [98, 97, 100] _ e98
        replace HSay2 := hid_intro (HSay2.out.trans (if_neg (of_decide_eq_false e98 : ¬ x = bBad)))
        clear e98 HWs HLow
        go_wp2_with fail
        exact bodyPost_ret (v := .tuple #[.agg #[.int .u8 0, .string ⟨#[]⟩, .int .u8 0, .slice none 0 0], .bool false]) (by simp [results, Tryz.results16, go_sem, z0, z1, z2, z3]) rfl ⟨keeps_new4 hkWw, sayIs_no HSay2.out⟩

end Go.Proofs.YtmgjegokkbghlaaGreatDoor
