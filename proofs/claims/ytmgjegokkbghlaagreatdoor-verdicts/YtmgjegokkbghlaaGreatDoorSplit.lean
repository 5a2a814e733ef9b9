/- The walks of isWord, split. -/
import Derived.Test.YtmgjegokkbghlaaGreatDoorWords
namespace Go.Proofs.YtmgjegokkbghlaaGreatDoor
open Go.RowKit Go.Maps Gram Circ
set_option linter.unusedVariables false

theorem infoStr : (Tryz.prog.info? 9).map (fun i => (i.zero, i.size, i.bytes)) = some (some (.string ByteArray.empty), 1, 16) := by kernel_rfl

theorem lit_eq (p : ByteArray) (l : List UInt8) (b : Bool) (h : decide (p = mk l) = b) : (p.toList == l) = b := (beq_lit p l).trans h
theorem okP_bl (p : ByteArray) : okP (bl p) = (isName p || decide (p = mk [48]) || decide (p = mk [49]) || signP (bl p)) := by
  unfold okP okW
  rw [mk_bl]
  have e : ∀ l, (bl p == l) = decide (p = mk l) := fun l => by
    rw [Bool.eq_iff_iff]
    simp
    exact ⟨fun h => bl_ext h, fun h => by rw [h, bl_mk]⟩
  rw [e, e]

set_option maxRecDepth 100000 in
set_option maxHeartbeats 1000000 in
theorem isWord_any {w : World} (hG : Glob w) (p : ByteArray) (h0 : 0 < p.size) (h : (∃ c, p = mk [c]) ∨ (2 ≤ p.size ∧ an p[0] = true)) :
    Calls Tryz.prog 177 #[.string p] w fun e w' => e = .returned (.bool (okP (bl p))) ∧ w = w' := by
  have HO : Hid (okP (bl p) = (isName p || decide (p = mk [48]) || decide (p = mk [49]) || signP (bl p))) := okP_bl p
  have hC := contains_any hG p (h.imp id fun q => ⟨q.1, h0, q.2⟩)
  generalize signP (bl p) = sv at hC HO
  cases h1 : isName p <;> cases h2 : decide (p = mk [48]) <;> cases h3 : decide (p = mk [49])
  all_goals
    have H1 : Hid (isName p = _) := h1
    have q2 := lit_eq p [48] _ h2
    have q3 := lit_eq p [49] _ h3
    rw [h1, h2, h3] at HO
    clear h1 h2 h3 h
    go_enter Tryz.func177, Tryz.ntmps177
    go_wp2_with (first
      | (go_at_call 130; refine (isName_any p h0).mono ?_; rintro e w' ⟨rfl, rfl⟩; rw [H1.out])
      | (go_at_call 198; refine hC.mono ?_; rintro e w' ⟨rfl, rfl⟩))
    all_goals go_ret
    all_goals refine ⟨ret_bool ?_, rfl⟩
    all_goals rw [HO.out]
    all_goals simp

def strSize : Value → Nat
  | .string t => t.size
  | _ => 0
theorem Glob.keeps {w w' : World} (h : Glob w) (hk : Keeps [] w w') : Glob w' := by
  obtain ⟨m, hm⟩ := h
  exact ⟨m, hk.cell hm (by simp)⟩
/-- words in memory that are the caller's own -/
def Wds (w : World) (base : Nat) (v : Value) (ws : List W) : Prop := w.ownsRow base 9 1 v ws.length (ws.map Value.string)
theorem ahead_len {l : List UInt8} (h : l ≠ []) : 1 ≤ (aheadL l).length ∧ (aheadL l).length ≤ l.length := by
  cases l with
  | nil => exact absurd rfl h
  | cons c r =>
    have := tw_le (c :: r)
    simp only [aheadL, List.length_take, List.length_cons] at this ⊢
    omega
theorem ahead_kind {s : ByteArray} (h : 0 < s.size) : (∃ c, mk (aheadL (bl s)) = mk [c]) ∨ (2 ≤ (mk (aheadL (bl s))).size ∧ ∃ h0 : 0 < (mk (aheadL (bl s))).size, an (mk (aheadL (bl s)))[0] = true) := by
  have hc := bl_cons s h
  by_cases ha : an s[0] = true
  · rw [hc, ahead_an ha]
    cases ht : ((bl s).drop 1).takeWhile an with
    | nil => exact Or.inl ⟨_, rfl⟩
    | cons x t => exact Or.inr ⟨by rw [mk_size]; simp, by rw [mk_size]; simp, ha⟩
  · rw [hc, ahead_sign (by simpa using ha)]
    exact Or.inl ⟨_, rfl⟩

/-- what split answers -/
def SplitIs (s : ByteArray) (base : Nat) (e : Ending) (w' : World) : Prop := match wordsOf (bl s) with
  | none => e = .returned (.tuple #[.slice none 0 0, .bool false])
  | some ws => ∃ v, e = .returned (.tuple #[v, .bool true]) ∧ Wds w' base v ws ∧ ws.length ≤ 1000
theorem splitIs_no {s : ByteArray} {base : Nat} {w' : World} (h : wordsOf (bl s) = none) : SplitIs s base (.returned (.tuple #[.slice none 0 0, .bool false])) w' := by
  unfold SplitIs; rw [h]
theorem splitIs_yes {s : ByteArray} {base : Nat} {w' : World} {v : Value} {ws : List W} (h : wordsOf (bl s) = some ws) (hw : Wds w' base v ws) (hl : ws.length ≤ 1000) : SplitIs s base (.returned (.tuple #[v, .bool true])) w' := by
  unfold SplitIs; rw [h]; exact ⟨v, rfl, hw, hl⟩

set_option maxRecDepth 100000 in
set_option maxHeartbeats 1000000 in
theorem split_any {w : World} (hG : Glob w) (s : ByteArray) (hs : s.size ≤ 1000) :
    Calls Tryz.prog 122 #[.string s] w fun e w' => Keeps [] w w' ∧ SplitIs s w.heap.size e w' := by
  obtain ⟨i0, hi0, hz0, hz1, hz2⟩ := info_parts infoStr
  have hml : 2000000 < maxLen := by decide
  go_enter Tryz.func122, Tryz.ntmps122
  go_wp2_with (first | (go_at_call 175; refine (trim_any s).mono ?_; rintro e w' ⟨rfl, rfl⟩))
  go_loopw [4, 5] (fun v r wr => ∃ (ws : List W) (t : ByteArray), r = .string t ∧ Wds wr w.heap.size v ws ∧ ws.length + t.size ≤ s.size ∧ (∀ c r, bl t = c :: r → c ≠ 32) ∧ wordsOf (bl s) = (wordsOf (bl t)).map (ws ++ ·) ∧ Keeps [] w wr) (fun _ r _ => strSize r)
  case atStart =>
    refine ⟨[], _, rfl, World.ownsRow_nil _ _ _ _, ?_, fun c r hb => trim_head hb, ?_, Keeps.refl _ _⟩
    · have := trim_len (bl s)
      rw [bl_len] at this
      rw [mk_size]
      simpa using this
    · rw [bl_mk, wordsOf_trim]; simp
  case round =>
    obtain ⟨ws, t, rfl, hown, hlen, h32, hwo, hk⟩ := hrel
    have HW : Hid (wordsOf (bl s) = (wordsOf (bl t)).map (ws ++ ·)) := hwo
    have H32 : Hid (∀ c r, bl t = c :: r → c ≠ 32) := h32
    have hbase := hk.size
    clear hwo h32
    by_cases h0 : t = mk []
    · have q0 := lit_eq t [] true (by simpa using h0)
      have HT : Hid (t = mk []) := h0
      clear h0
      go_wp2_with fail
      go_ret2
      refine ⟨hk, splitIs_yes ?_ hown (by omega)⟩
      rw [HW.out, HT.out, bl_mk, wordsOf_nil]
      simp
    · have q0 := lit_eq t [] false (by simpa using h0)
      have hpos : 0 < t.size := by
        rcases Nat.eq_zero_or_pos t.size with e | e
        · exact absurd (bl_ext (by rw [bl_mk, ← List.length_eq_zero_iff, bl_len]; exact e)) h0
        · exact e
      have hcons := bl_cons t hpos
      have hal := ahead_len (l := bl t) (by rw [hcons]; simp)
      have hkind := ahead_kind hpos
      rw [bl_len] at hal
      have hwa := wordsOf_ahead (c := t[0]) (r := (bl t).drop 1) (H32.out _ _ hcons)
      rw [← hcons] at hwa
      obtain ⟨p, hp⟩ : ∃ p, p = mk (aheadL (bl t)) := ⟨_, rfl⟩
      have hps : p.size = (aheadL (bl t)).length := by rw [hp, mk_size]
      have hbp : aheadL (bl t) = bl p := by rw [hp, bl_mk]
      have HP : Hid (p = mk (aheadL (bl t))) := hp
      rw [← hp] at hkind hwa
      rw [hbp] at hwa
      have HA : Hid (wordsOf (bl t) = if okP (bl p) then (wordsOf ((bl t).drop (bl p).length)).map (p :: ·) else none) := hwa
      have HB : Hid (Calls Tryz.prog 177 #[.string p] wr fun e w' => e = .returned (.bool (okP (bl p))) ∧ wr = w') := isWord_any (hG.keeps hk) p (by omega) (hkind.imp id fun q => ⟨q.1, q.2.2⟩)
      have hp1 : 1 ≤ p.size := by omega
      have hp2 : p.size ≤ t.size := by omega
      clear hcons hal hkind hwa hp hps hbp h0
      cases hok : okP (bl p)
      all_goals
        have HO : Hid (okP (bl p) = _) := hok
        clear hok
        go_wp2_with (first
          | (go_at_call 176; refine (ahead_any t (by omega) (by omega)).mono ?_; rintro e w' ⟨rfl, rfl⟩; rw [← HP.out])
          | (go_at_call 177; refine HB.out.mono ?_; rintro e w' ⟨rfl, rfl⟩; rw [HO.out])
          | (go_at_call 175; refine (trim_any _).mono ?_; rintro e w' ⟨rfl, rfl⟩)
          | (at_builtin; refine wpList_append_own_at _ rfl _ _ 32 rfl w.heap.size 9 i0 (.string ByteArray.empty) 1 16 Tryz.underlying32 hi0 hz0 hz1 hz2 rfl (by decide) _ ws.length (ws.map Value.string) rfl (hown.alloc _) ⟨wr.heap.size, 0, none⟩ 1 1 [.string p] rfl rfl (cell_one_new _ _ _) (by simp [Value.oneCell']) (by omega) (by omega) (by simp; omega) ?_; intro v' w1 hown' hgrow hnil hloc)
          | fail)
      · go_ret2
        refine ⟨hk, splitIs_no ?_⟩
        rw [HW.out, HA.out, HO.out]
        rfl
      · have htl := trim_len (bl (t.extract p.size t.size))
        have hel : (bl (t.extract p.size t.size)).length = t.size - p.size := by
          rw [bl_extract, ← bl_len t, List.take_length, List.length_drop]
        refine ⟨⟨ws ++ [p], _, rfl, ?_, ?_, fun c r hb => trim_head hb, ?_, (hk.alloc _).grown hgrow (fun k hk' => Or.inr (hown.lt k hk').1)⟩, ?_⟩
        · unfold Wds
          rw [List.length_append, List.map_append]
          exact hown'
        · rw [mk_size, List.length_append]
          simp only [List.length_cons, List.length_nil]
          omega
        · rw [HW.out, HA.out, HO.out, bl_mk, wordsOf_trim, bl_extract, ← bl_len t, List.take_length, bl_len p]
          simp only [if_true]
          cases wordsOf ((bl t).drop p.size) <;> simp
        · show (mk _).size < t.size
          rw [mk_size]
          omega

end Go.Proofs.YtmgjegokkbghlaaGreatDoor
