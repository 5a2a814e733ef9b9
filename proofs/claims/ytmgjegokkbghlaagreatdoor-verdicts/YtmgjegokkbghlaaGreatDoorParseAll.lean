/- The walk of chain; parse as a whole. -/
import Derived.Test.YtmgjegokkbghlaaGreatDoorParseRec
namespace Go.Proofs.YtmgjegokkbghlaaGreatDoor
open Go.RowKit Go.Maps Gram Circ
set_option linter.unusedVariables false

theorem chainF_lt (n d : Nat) {k : Nat} (hk : k < 3) (ws : List W) : chainF (n + 1) k d ws = match chainF n (k + 1) d ws with
    | none => none
    | some (e, r) => loopF (chainF n (k + 1) d) k (r.length + 1) e r := by
  conv => lhs; unfold chainF
  rw [if_pos hk]
  rfl
theorem loopF_go {rec : List W → Option (Ex × List W)} {k m : Nat} {e : Ex} {r : List W} : loopF rec k (m + 1) e (sg k :: r) = match rec r with
    | none => none
    | some (f, r') => loopF rec k m (.bin k e f) r' := by
  conv => lhs; unfold loopF
  simp
  rfl
theorem loopF_end {rec : List W → Option (Ex × List W)} {k m : Nat} {e : Ex} {ws : List W} (h : takeW (sg k) ws = none) : loopF rec k (m + 1) e ws = some (e, ws) := by
  unfold loopF
  cases ws with
  | nil => rfl
  | cons x r =>
    have : x ≠ sg k := fun e => by simp [takeW, e] at h
    simp [this]
theorem Prs.drewN {w0 w : World} {P : Nat} {ws made : List W} (h : Prs w0 P w ws made) (n : Nat) : Prs w0 P (w.drewN n) ws made :=
  ⟨h.keeps.drewN n, h.lt, h.words, h.mades, h.f0, h.f1⟩
def wlen (P : Nat) (w : World) : Nat := match w.cell? ⟨P, 0, none⟩ with
  | some (.slice _ n _) => n
  | _ => 0
theorem Prs.wlen {w0 w : World} {P : Nat} {ws made : List W} (h : Prs w0 P w ws made) : wlen P w = ws.length := by
  obtain ⟨v, hc, a, cap, rfl, _⟩ := h.words
  unfold Proofs.YtmgjegokkbghlaaGreatDoor.wlen
  rw [hc]
theorem btw_is {k : Nat} (hk : k < 3) : 1 ≤ (btw k).size ∧ (btw k).size ≤ 3 ∧ (btw k).extract 0 1 = sg k ∧ (btw k).extract 1 (btw k).size = btw (k + 1) ∧ btw k ≠ ⟨#[]⟩ := by
  rcases sg_cases hk with rfl | rfl | rfl <;> decide

set_option maxRecDepth 100000 in
set_option maxHeartbeats 2000000 in
theorem chain_lt {w0 w : World} {P : Nat} {ws made : List W} (n k d : Nat) (IH : ChainSaid n) (h : Prs w0 P w ws made) (hfew : made.length + ws.length ≤ 5000) (hpos : ∀ x ∈ ws, 0 < ByteArray.size x) (hk : k < 3) (hd : d ≤ 8) (hn : 4 * ws.length + (3 - k) < n + 1) :
    Calls Tryz.prog 199 #[.pointer (some ⟨P, 0, none⟩), .string (btw k), .int .i64 (8 - (d : Int))] w fun e w' => ReadIs w0 P ws made (chainF (n + 1) k d ws) e w' := by
  obtain ⟨i0, hi0, hz0, hz1, hz2⟩ := info_parts infoStr
  have hml : 2000000 < maxLen := by decide
  have hlt := h.lt
  obtain ⟨b1, b2, b3, b4, b5⟩ := btw_is hk
  have b6 : (btw k).toList.isEmpty = false := empty_ne b5
  have b7 : ((btw k).toList == []) = false := lit_eq _ [] false (decide_eq_false b5)
  have HS : Hid (∀ w1 ws1 made1, Prs w0 P w1 ws1 made1 → made1.length + ws1.length ≤ 5000 → (∀ y ∈ ws1, y ∈ ws) → ws1.length ≤ ws.length → Calls Tryz.prog 199 #[.pointer (some ⟨P, 0, none⟩), .string (btw (k + 1)), .int .i64 (8 - (d : Int))] w1 fun e w' => ReadIs w0 P ws1 made1 (chainF n (k + 1) d ws1) e w') :=
    fun w1 ws1 made1 hP1 hf1 hm1 hl1 => IH w0 w1 P ws1 made1 (k + 1) d hP1 hf1 (fun x hx => hpos x (hm1 x hx)) (by omega) hd (by omega)
  have HR : Hid (chainF (n + 1) k d ws = match chainF n (k + 1) d ws with
    | none => none
    | some (e, r) => loopF (chainF n (k + 1) d) k (r.length + 1) e r) := chainF_lt n d hk ws
  obtain ⟨B, hB⟩ : ∃ B, B = btw k := ⟨_, rfl⟩
  obtain ⟨B', hB'⟩ : ∃ B', B' = btw (k + 1) := ⟨_, rfl⟩
  obtain ⟨S, hS⟩ : ∃ S, S = sg k := ⟨_, rfl⟩
  obtain ⟨res, hres0⟩ : ∃ res, res = chainF (n + 1) k d ws := ⟨_, rfl⟩
  obtain ⟨rec, hrec⟩ : ∃ rec, rec = chainF n (k + 1) d := ⟨_, rfl⟩
  obtain ⟨dp, hdp⟩ : ∃ dp : Int, dp = 8 - (d : Int) := ⟨_, rfl⟩
  rw [← hB] at b1 b2 b3 b4 b6 b7 ⊢
  rw [← hB', ← hdp, ← hrec] at HS
  rw [← hB'] at b4
  rw [← hS] at b3
  rw [← hres0, ← hrec] at HR
  rw [← hres0, ← hdp]
  have HSg : Hid (S = sg k) := hS
  clear hB hB' hS hres0 hrec hdp b5 IH hpos hn hd
  have HB3 : Hid (B.extract 0 1 = S) := b3
  have HB4 : Hid (B.extract 1 B.size = B') := b4
  have hb1 : (1 : Int) ≤ (B.size : Int) := by omega
  cases hr0 : rec ws with
  | none =>
    have HR0 : Hid (rec ws = none) := hr0
    clear hr0
    go_enter Tryz.func199, Tryz.ntmps199
    go_wp2_with fail
    go_quiet (fail)
    go_wp2_with (first
      | (go_at_call 199; refine (HS.out _ ws made (h.drewN _) hfew (fun y hy => hy) (Nat.le_refl _)).mono ?_; rintro e w2 hrd; rw [HR0.out] at hrd; obtain ⟨rfl, ws2, made2, hP2, p1, p2, p3⟩ := hrd.no; clear hrd)
      | fail)
    go_ret
    exact ReadIs.mkNo (by rw [HR.out, HR0.out]) hP2 p1 p2 p3
  | some q =>
    obtain ⟨e0, r0⟩ := q
    have HR0 : Hid (rec ws = some (e0, r0)) := hr0
    clear hr0
    go_enter Tryz.func199, Tryz.ntmps199
    go_wp2_with fail
    go_quiet (fail)
    go_wp2_with (first
      | (go_at_call 199; refine (HS.out _ ws made (h.drewN _) hfew (fun y hy => hy) (Nat.le_refl _)).mono ?_; rintro e w2 hrd; rw [HR0.out] at hrd; obtain ⟨rfl, hP2, p1, p2, p3⟩ := hrd.yes; clear hrd)
      | fail)
    go_loopw [] (fun wr => ∃ (cur : Ex) (ws1 : List W) (mm : Nat), Prs w0 P wr ws1 (made ++ cur.post) ∧ (made ++ cur.post).length + ws1.length ≤ made.length + ws.length ∧ ws1.length ≤ ws.length ∧ (∀ y ∈ ws1, y ∈ ws) ∧ ws1.length < mm ∧ res = loopF rec k mm cur ws1) (fun wr => wlen P wr)
    case atStart =>
      exact ⟨e0, r0, r0.length + 1, hP2, p1, p2, p3, by omega, by rw [HR.out, HR0.out]⟩
    case round =>
      obtain ⟨cur, ws1, mm, hP, q1, q2, q3, q4, hq⟩ := hrel
      obtain ⟨mm, rfl⟩ : ∃ m', mm = m' + 1 := ⟨mm - 1, by omega⟩
      have HQ : Hid (res = loopF rec k (mm + 1) cur ws1) := hq
      have hwl := hP.wlen
      clear hq
      obtain ⟨made1, hm1⟩ : ∃ made1, made1 = made ++ cur.post := ⟨_, rfl⟩
      rw [← hm1] at hP q1
      have HM1 : Hid (made1 = made ++ cur.post) := hm1
      clear hm1
      cases ht : takeW S ws1 with
      | none =>
        have HT : Hid (Calls Tryz.prog 208 #[.pointer (some ⟨P, 0, none⟩), .string S] wr fun e w' => e = .returned (.bool false) ∧ wr = w') := take_no hP ht
        have HTn : Hid (takeW S ws1 = none) := ht
        clear ht
        go_wp2_with (first
          | (go_at_call 208; refine HT.out.mono ?_; rintro e w3 ⟨rfl, rfl⟩)
          | fail)
        go_ret
        exact ReadIs.mkYes (ex := cur) (by rw [HQ.out]; exact loopF_end (by rw [← HSg.out]; exact HTn.out)) HM1.out hP q1 q2 q3
      | some r =>
        have hws : ws1 = sg k :: r := by
          cases ws1 with
          | nil => simp [takeW] at ht
          | cons x r' =>
            by_cases e : x = S
            · simp [takeW, e] at ht; rw [e, ht, HSg.out]
            · simp [takeW, e] at ht
        have HT : Hid (Calls Tryz.prog 208 #[.pointer (some ⟨P, 0, none⟩), .string S] wr fun e w' => e = .returned (.bool true) ∧ Prs w0 P w' r made1) := take_yes hP ht
        have hrl : ws1.length = r.length + 1 := by rw [hws]; simp
        have hrm : ∀ y ∈ r, y ∈ ws := fun y hy => q3 y (by rw [hws]; simp [hy])
        have HWS : Hid (ws1 = sg k :: r) := hws
        clear ht hws
        cases hr1 : rec r with
        | none =>
          have HR1 : Hid (rec r = none) := hr1
          clear hr1
          go_wp2_with (first
            | (go_at_call 199; refine (HS.out _ r made1 hP3 (by omega) hrm (by omega)).mono ?_; rintro e w4 hrd; rw [HR1.out] at hrd; obtain ⟨rfl, ws4, made4, hP4, p1', p2', p3'⟩ := hrd.no; clear hrd)
            | (go_at_call 208; refine HT.out.mono ?_; rintro e w3 ⟨rfl, hP3⟩)
            | fail)
          go_ret
          exact ReadIs.mkNo (by rw [HQ.out, HWS.out, loopF_go, HR1.out]) hP4 (by omega) (by omega) (fun y hy => hrm y (p3' y hy))
        | some q =>
          obtain ⟨f, r'⟩ := q
          have HR1 : Hid (rec r = some (f, r')) := hr1
          clear hr1
          go_wp2_with (first
            | (go_at_call 199; refine (HS.out _ r made1 hP3 (by omega) hrm (by omega)).mono ?_; rintro e w4 hrd; rw [HR1.out] at hrd; obtain ⟨rfl, hP4, p1', p2', p3'⟩ := hrd.yes; clear hrd; obtain ⟨made4, hm4⟩ : ∃ made4, made4 = made1 ++ f.post := ⟨_, rfl⟩; rw [← hm4] at hP4 p1'; have HM4 : Hid (made4 = made1 ++ f.post) := hm4; clear hm4; have hsz4 := hP4.keeps.size; have f1 := hP4.f1; obtain ⟨m, hmc, hmo⟩ := hP4.mades)
            | (go_at_call 208; refine HT.out.mono ?_; rintro e w3 ⟨rfl, hP3⟩)
            | (at_builtin; refine wpList_append_own_at _ rfl _ _ 50 rfl w0.heap.size 9 i0 (.string ByteArray.empty) 1 16 Tryz.underlying50 hi0 hz0 hz1 hz2 rfl (by decide) _ made4.length (made4.map Value.string) rfl (hmo.alloc _) ⟨w4.heap.size, 0, none⟩ 1 1 [.string S] rfl rfl (cell_one_new _ _ _) (by simp [Value.oneCell']) (by omega) (by omega) (by simp; omega) ?_; intro v' w5 hown' hgrow hnil hloc; obtain ⟨g', cap', rfl⟩ := own_slice hown'; obtain ⟨hP5, hcs, g0', g1'⟩ := hP4.append (x := S) hmc hown' hgrow (fun k hk' => (hmo.lt k hk').1); have c1' := hcs _ _ _ hlt hmc; clear hcs)
            | fail)
          have hmd : made4 ++ [S] = made ++ (Ex.bin k cur f).post := by
            rw [HM4.out, HM1.out, HSg.out]; simp [Ex.post]
          rw [hmd] at hP5
          go_roundw
          case rel =>
            refine ⟨.bin k cur f, r', mm, hP5, ?_, by omega, fun y hy => hrm y (p3' y hy), by omega, ?_⟩
            · rw [← hmd]; simp; omega
            · rw [HQ.out, HWS.out, loopF_go, HR1.out]
          case measure => rw [hP5.wlen, hwl]; omega

set_option maxRecDepth 100000 in
theorem chain_three {w0 w : World} {P : Nat} {ws made : List W} (n d : Nat) (IH : SingleSaid n) (h : Prs w0 P w ws made) (hfew : made.length + ws.length ≤ 5000) (hpos : ∀ x ∈ ws, 0 < ByteArray.size x) (hd : d ≤ 8) (hn : 4 * ws.length < n) :
    Calls Tryz.prog 199 #[.pointer (some ⟨P, 0, none⟩), .string ⟨#[]⟩, .int .i64 (8 - (d : Int))] w fun e w' => ReadIs w0 P ws made (chainF n 3 d ws) e w' := by
  have HS : Hid (Calls Tryz.prog 207 #[.pointer (some ⟨P, 0, none⟩), .int .i64 (8 - (d : Int))] w fun e w' => ReadIs w0 P ws made (chainF n 3 d ws) e w') := IH w0 w P ws made d h hfew hpos hd hn
  clear IH h hfew hpos hd hn
  generalize (8 - (d : Int)) = dp at *
  go_enter Tryz.func199, Tryz.ntmps199
  go_wp2_with (first
    | (go_at_call 207; refine HS.out.mono ?_; rintro e w1 hrd; have hrd0 := hrd; obtain ⟨rfl, _⟩ := hrd0)
    | fail)
  go_ret
  exact hrd

theorem descent : ∀ n, ChainSaid n ∧ SingleSaid n := by
  intro n
  induction n with
  | zero => exact ⟨fun _ _ _ _ _ _ _ _ _ _ _ _ h => by omega, fun _ _ _ _ _ _ _ _ _ _ h => by omega⟩
  | succ n ih =>
    have hs := single_step ih.1 ih.2
    refine ⟨fun w0 w P ws made k d h hfew hpos hk hd hn => ?_, hs⟩
    by_cases e : k < 3
    · exact chain_lt n k d ih.1 h hfew hpos e hd hn
    · obtain rfl : k = 3 := by omega
      exact chain_three (n + 1) d hs h hfew hpos hd (by omega)

theorem infoParser : (Tryz.prog.info? 266).map (fun i => (i.zero, i.size, i.bytes)) = some (some (.agg #[.slice none 0 0, .slice none 0 0]), 2, 48) := by kernel_rfl

/-- what parse answers -/
def ParseIs (base : Nat) (ws : List W) (e : Ending) (w' : World) : Prop := match parseW ws with
  | none => ∃ a n c, e = .returned (.tuple #[.slice a n c, .bool false])
  | some ex => ∃ a n c, e = .returned (.tuple #[.slice a n c, .bool true]) ∧ Wds w' base (.slice a n c) ex.post
theorem parse_no {ws : List W} (h : chainF (4 * ws.length + 4) 0 8 ws = none ∨ ∃ ex x r, chainF (4 * ws.length + 4) 0 8 ws = some (ex, x :: r)) : parseW ws = none := by
  unfold parseW
  rcases h with h | ⟨ex, x, r, h⟩ <;> rw [h]
theorem parse_yes {ws : List W} {ex : Ex} (h : chainF (4 * ws.length + 4) 0 8 ws = some (ex, [])) : parseW ws = some ex := by
  unfold parseW; rw [h]
theorem Wds.slice {w : World} {base : Nat} {v : Value} {l : List W} (h : Wds w base v l) : ∃ a n c, v = .slice a n c := by
  rcases h.2 with ⟨h0, _⟩ | ⟨g, cap, cur, hv, _⟩
  · exact ⟨none, 0, 0, h0⟩
  · exact ⟨_, _, _, hv⟩
theorem Wds.base {w : World} {base base' : Nat} {v : Value} {l : List W} (h : Wds w base v l) (hb : base' ≤ base) : Wds w base' v l := by
  refine ⟨h.1, ?_⟩
  rcases h.2 with h0 | ⟨g, cap, cur, h1, h2, h3⟩
  · exact Or.inl h0
  · exact Or.inr ⟨g, cap, cur, h1, by omega, h3⟩

set_option maxRecDepth 100000 in
set_option maxHeartbeats 1000000 in
theorem parse_any {w : World} {v : Value} {ws : List W} (hv : WSl w w.heap.size v ws) (hl : ws.length ≤ 2000) (hpos : ∀ x ∈ ws, 0 < ByteArray.size x) :
    Calls Tryz.prog 179 #[v] w fun e w' => Keeps [] w w' ∧ ParseIs w.heap.size ws e w' := by
  obtain ⟨a, cap, rfl, hcap, hcap2, hcells⟩ := hv
  obtain ⟨w0, hw0⟩ : ∃ w0, w0 = w.alloc (.cells #[.slice a ws.length cap, .slice none 0 0] 266) := ⟨_, rfl⟩
  have hs0 : w0.heap.size = w.heap.size + 1 := by rw [hw0]; simp
  have hk0 : Keeps [] w w0 := by rw [hw0]; exact (Keeps.refl _ _).alloc _
  have hP : Prs w0 w.heap.size w0 ws [] := by
    refine ⟨Keeps.refl _ _, by omega, ⟨.slice a ws.length cap, by rw [hw0]; simp, a, cap, rfl, hcap, hcap2, fun j hj => ?_⟩, ⟨.slice none 0 0, by rw [hw0]; simp, World.ownsRow_nil _ _ _ _⟩, by rw [hw0]; simp, by rw [hw0]; simp⟩
    obtain ⟨b, o, h1, h2, h3, h4⟩ := hcells j hj
    exact ⟨b, o, h1, h2, by omega, hk0.cell h4 (by simp)⟩
  have HC : Hid (Calls Tryz.prog 199 #[.pointer (some ⟨w.heap.size, 0, none⟩), .string ⟨#[124, 94, 38]⟩, .int .i64 0] w0 fun e w' => ReadIs w0 w.heap.size ws [] (chainF (4 * ws.length + 4) 0 8 ws) e w') :=
    (descent (4 * ws.length + 4)).1 w0 w0 w.heap.size ws [] 0 8 hP (by simp; omega) hpos (by omega) (by omega) (by omega)
  have HW : Hid (w0 = w.alloc (.cells #[.slice a ws.length cap, .slice none 0 0] 266)) := hw0
  have kk : ∀ w', Keeps [w.heap.size] w0 w' → Keeps [] w w' := fun w' hk => ((hk0.mono (by simp)).trans hk).strike (by simp)
  have KK : Hid (∀ w', Keeps [w.heap.size] w0 w' → Keeps [] w w') := kk
  clear hP hcells kk hpos
  cases hres : chainF (4 * ws.length + 4) 0 8 ws with
  | none =>
    have HR : Hid (parseW ws = none) := parse_no (Or.inl hres)
    have HRs : Hid (chainF (4 * ws.length + 4) 0 8 ws = none) := hres
    clear hres hw0
    go_enter Tryz.func179, Tryz.ntmps179
    go_wp2_with fail
    rw [← HW.out]
    refine HC.out.mono ?_
    rintro e w1 hrd
    rw [HRs.out] at hrd
    obtain ⟨rfl, ws2, made2, hP2, _, _, _⟩ := hrd.no
    clear hrd
    obtain ⟨m, hmc, hmo⟩ := hP2.mades
    obtain ⟨ma, mn, mc, rfl⟩ := hmo.slice
    go_wp2_with fail
    go_ret2
    refine ⟨KK.out _ hP2.keeps, ?_⟩
    unfold ParseIs
    rw [HR.out]
    exact ⟨_, _, _, rfl⟩
  | some q =>
    obtain ⟨ex, r⟩ := q
    cases r with
    | nil =>
      have HR : Hid (parseW ws = some ex) := parse_yes hres
      have HRs : Hid (chainF (4 * ws.length + 4) 0 8 ws = some (ex, [])) := hres
      clear hres hw0
      go_enter Tryz.func179, Tryz.ntmps179
      go_wp2_with fail
      rw [← HW.out]
      refine HC.out.mono ?_
      rintro e w1 hrd
      rw [HRs.out] at hrd
      obtain ⟨rfl, hP2, _, _, _⟩ := hrd.yes
      clear hrd
      obtain ⟨m, hmc, hmo⟩ := hP2.mades
      obtain ⟨ma, mn, mc, rfl⟩ := hmo.slice
      obtain ⟨v2, hc2, hv2⟩ := hP2.words
      obtain ⟨a2, cap2, rfl⟩ := hv2.nil
      go_wp2_with fail
      go_ret2
      refine ⟨KK.out _ hP2.keeps, ?_⟩
      unfold ParseIs
      rw [HR.out]
      exact ⟨_, _, _, rfl, hmo.base (by omega)⟩
    | cons x r =>
      have HR : Hid (parseW ws = none) := parse_no (Or.inr ⟨ex, x, r, hres⟩)
      have HRs : Hid (chainF (4 * ws.length + 4) 0 8 ws = some (ex, x :: r)) := hres
      clear hres hw0
      go_enter Tryz.func179, Tryz.ntmps179
      go_wp2_with fail
      rw [← HW.out]
      refine HC.out.mono ?_
      rintro e w1 hrd
      rw [HRs.out] at hrd
      obtain ⟨rfl, hP2, _, _, _⟩ := hrd.yes
      clear hrd
      obtain ⟨m, hmc, hmo⟩ := hP2.mades
      obtain ⟨ma, mn, mc, rfl⟩ := hmo.slice
      obtain ⟨v2, hc2, hv2⟩ := hP2.words
      obtain ⟨b2, o2, cap2, rfl, _⟩ := hv2.cons
      have hz : (((r.length + 1 : Nat) : Int) == 0) = false := beq_false_of_ne (by omega)
      go_wp2_with fail
      go_ret2
      refine ⟨KK.out _ hP2.keeps, ?_⟩
      unfold ParseIs
      rw [HR.out]
      exact ⟨_, _, _, rfl⟩

end Go.Proofs.YtmgjegokkbghlaaGreatDoor
