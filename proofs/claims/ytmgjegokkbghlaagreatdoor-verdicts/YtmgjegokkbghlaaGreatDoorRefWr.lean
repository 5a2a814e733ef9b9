/- The document's names, walked. The document's again, walked. The document's wrong, walked. -/
import Derived.Test.YtmgjegokkbghlaaGreatDoorRefPl
namespace Go.Proofs.YtmgjegokkbghlaaGreatDoor
open Go.RowKit Go.Maps Gram Circ
set_option linter.unusedVariables false

theorem namesOf_len (a b : Int) (ls : List Ln) : (namesOf a b ls).length ≤ ls.length := by
  unfold namesOf; rw [List.length_map]; exact List.length_filter_le _ _
set_option maxRecDepth 100000 in
set_option maxHeartbeats 2000000 in
theorem rnames_any {w : World} {v : Value} {ls : List Ln} (hv : LD w v ls) (a b : Int) :
    Calls Tryz.prog 18 #[v, .int .u8 a, .int .u8 b] w fun e w' => ∃ u, e = .returned u ∧ Wds w' w.heap.size u (namesOf a b ls) ∧ Keeps [] w w' := by
  obtain ⟨i0, hi0, hz0, hz1, hz2⟩ := info_parts infoStr
  have hml : 2000000 < maxLen := by decide
  obtain ⟨g, cap, rfl, hcap, hg, hfew, hD, hcells⟩ := hv
  have HC := hid_intro hcells
  obtain ⟨n, hnl⟩ : ∃ n, n = ls.length := ⟨_, rfl⟩
  rw [← hnl] at hcap hfew ⊢
  have HN := hid_intro hnl
  clear hcells hnl hD
  go_enter Tryz.func18, Tryz.ntmps18
  go_wp2_with fail
  go_loopw [7, 8] (fun y7 y8 wr => ∃ j : Nat, y8 = .int .i64 j ∧ j ≤ n ∧ Wds wr w.heap.size y7 (namesOf a b (ls.take j)) ∧ Keeps [] w wr) (fun _ y8 _ => n - (intOf y8).toNat)
  case atStart => exact ⟨0, rfl, by omega, World.ownsRow_nil _ _ _ _, Keeps.refl _ _⟩
  case round =>
    obtain ⟨j, rfl, hj, hown, hk⟩ := hrel
    have HOwn := hid_intro hown
    have hbase := hk.size
    clear hown
    by_cases hlt : j < n
    · have hj0 : (0 : Int) ≤ (j : Int) := by omega
      have hj1 : (j : Int) < (n : Int) := by omega
      have hjl : j < ls.length := by rw [← HN.out]; exact hlt
      obtain ⟨sa, sn, sc, k1, k2, k3, k4, k5⟩ := HC.out j hjl
      have k1 := hk.cell k1 (by simp)
      have k2 := hk.cell k2 (by simp)
      have hnt := namesOf_take (a := a) (b := b) hjl
      have hwl := namesOf_len a b (ls.take j)
      rw [List.length_take] at hwl
      obtain ⟨t, ht⟩ : ∃ t, t = kb ls[j].kind := ⟨_, rfl⟩
      obtain ⟨nm, hnm⟩ : ∃ nm, nm = ls[j].name := ⟨_, rfl⟩
      rw [← ht] at k1 hnt
      rw [← hnm] at k2 hnt
      obtain ⟨q, hq⟩ : ∃ q, q = namesOf a b (ls.take j) := ⟨_, rfl⟩
      rw [← hq] at hnt hwl HOwn
      clear k3 k4 k5 ht hnm hq
      cases ha : (t == a)
      · cases hb : (t == b)
        · rw [ha, hb] at hnt
          have HNt := hid_intro (hnt.trans (List.append_nil _))
          clear hnt
          go_wp2_with fail
          exact ⟨⟨j + 1, by go_num, by omega, by rw [HNt.out]; exact HOwn.out, hk⟩, by simp [intOf]; omega⟩
        · rw [ha, hb] at hnt
          have HNt := hid_intro hnt
          clear hnt
          go_wp2_with (first
            | (at_builtin; refine wpList_append_own_at _ rfl _ _ 32 rfl w.heap.size 9 i0 (.string ByteArray.empty) 1 16 Tryz.underlying32 hi0 hz0 hz1 hz2 rfl (by decide) _ q.length (q.map Value.string) rfl (HOwn.out.alloc _) ⟨wr.heap.size, 0, none⟩ 1 1 [_] rfl rfl (cells_new _ _ _) (by simp [Value.oneCell']) (by omega) (by omega) (by simp; omega) ?_; intro v' w1 hown' hgrow hnil hloc; have HOW := hid_intro hown'; have HGR := hid_intro hgrow; clear hown' hgrow hloc hnil)
            | fail)
          have hk1 := push_keeps' HOwn.out HGR.out hk
          refine ⟨⟨j + 1, by go_num, by omega, ?_, hk1⟩, by simp [intOf]; omega⟩
          have := HOW.out
          rw [HNt.out]
          unfold Wds
          rw [Bool.false_or, if_pos rfl, List.map_append, List.length_append]
          exact this
      · rw [ha] at hnt
        have HNt := hid_intro hnt
        clear hnt
        go_wp2_with (first
          | (at_builtin; refine wpList_append_own_at _ rfl _ _ 32 rfl w.heap.size 9 i0 (.string ByteArray.empty) 1 16 Tryz.underlying32 hi0 hz0 hz1 hz2 rfl (by decide) _ q.length (q.map Value.string) rfl (HOwn.out.alloc _) ⟨wr.heap.size, 0, none⟩ 1 1 [_] rfl rfl (cells_new _ _ _) (by simp [Value.oneCell']) (by omega) (by omega) (by simp; omega) ?_; intro v' w1 hown' hgrow hnil hloc; have HOW := hid_intro hown'; have HGR := hid_intro hgrow; clear hown' hgrow hloc hnil)
          | fail)
        have hk1 := push_keeps' HOwn.out HGR.out hk
        refine ⟨⟨j + 1, by go_num, by omega, ?_, hk1⟩, by simp [intOf]; omega⟩
        have := HOW.out
        rw [HNt.out]
        unfold Wds
        rw [Bool.true_or, if_pos rfl, List.map_append, List.length_append]
        exact this
    · have hjn : ¬ (j : Int) < (n : Int) := by omega
      have hfin := HOwn.out
      rw [List.take_of_length_le (by rw [← HN.out]; omega)] at hfin
      have HF := hid_intro hfin
      clear hfin
      go_wp2_with fail
      go_ret
      exact ⟨_, rfl, HF.out, hk⟩

end Go.Proofs.YtmgjegokkbghlaaGreatDoor

namespace Go.Proofs.YtmgjegokkbghlaaGreatDoor
open Go.RowKit Go.Maps Gram Circ
set_option linter.unusedVariables false

theorem again_cases {x y : Ln} (hx : LnD x) (hy : LnD y) :
    (clash x y = decide (x.name = y.name) ∧ (kb x.kind == 105) = true ∧ (kb y.kind == 105) = true)
    ∨ (clash x y = decide (x.name = y.name) ∧ (kb x.kind == 105) = true ∧ (kb y.kind == 105) = false ∧ (kb y.kind == 108) = true)
    ∨ (clash x y = decide (x.name = y.name) ∧ (kb x.kind == 105) = false ∧ (kb x.kind == 108) = true ∧ (kb y.kind == 105) = true)
    ∨ (clash x y = decide (x.name = y.name) ∧ (kb x.kind == 105) = false ∧ (kb x.kind == 108) = true ∧ (kb y.kind == 105) = false ∧ (kb y.kind == 108) = true)
    ∨ (clash x y = decide (x.name = y.name) ∧ (kb x.kind == 105) = false ∧ (kb x.kind == 108) = false ∧ (kb x.kind == kb y.kind) = true ∧ (kb x.kind != 0) = true)
    ∨ (clash x y = false ∧ (kb x.kind == 105) = true ∧ (kb y.kind == 105) = false ∧ (kb y.kind == 108) = false ∧ (kb x.kind == kb y.kind) = false)
    ∨ (clash x y = false ∧ (kb x.kind == 105) = false ∧ (kb x.kind == 108) = true ∧ (kb y.kind == 105) = false ∧ (kb y.kind == 108) = false ∧ (kb x.kind == kb y.kind) = false)
    ∨ (clash x y = false ∧ (kb x.kind == 105) = false ∧ (kb x.kind == 108) = false ∧ (kb x.kind == kb y.kind) = false)
    ∨ (clash x y = false ∧ (kb x.kind == 105) = false ∧ (kb x.kind == 108) = false ∧ (kb x.kind == kb y.kind) = true ∧ (kb x.kind != 0) = false) := by
  rcases kind_of hx with e1 | e1 | e1 | e1 | e1 <;> rcases kind_of hy with e2 | e2 | e2 | e2 | e2 <;> simp [clash, decl, e1, e2, kb]

set_option maxRecDepth 100000 in
set_option maxHeartbeats 8000000 in
theorem ragain_any {w : World} {v : Value} {ls : List Ln} (hv : LD w v ls) {i : Nat} (hi : i < ls.length) :
    Calls Tryz.prog 48 #[v, .int .i64 (i : Int)] w fun e w' => e = .returned (.int .i64 (againOf ls i : Int)) ∧ Keeps [] w w' := by
  obtain ⟨g, cap, rfl, hcap, hg, hfew, hD, hcells⟩ := hv
  have HC := hid_intro hcells
  have HD := hid_intro hD
  have HI := hid_intro hi
  obtain ⟨n, hnl⟩ : ∃ n, n = ls.length := ⟨_, rfl⟩
  rw [← hnl] at hcap hfew hi ⊢
  have HN := hid_intro hnl
  have hi0 : (0 : Int) ≤ (i : Int) := by omega
  have hi1 : (i : Int) < (n : Int) := by omega
  clear hcells hnl hD
  go_enter Tryz.func48, Tryz.ntmps48
  go_wp2_with fail
  go_loopw [5, 6] (fun y5 y6 wr => ∃ j q : Nat, y6 = .int .i64 j ∧ y5 = .int .i64 q ∧ j ≤ i ∧ q ≤ j ∧ q = (ls.take j).countP (fun a => clash a (nth ls i)) ∧ Keeps [] w wr) (fun _ y6 _ => i - (intOf y6).toNat)
  case atStart => exact ⟨0, 0, rfl, rfl, by omega, by omega, by simp, Keeps.refl _ _⟩
  case round =>
    obtain ⟨j, q, rfl, rfl, hj, hqj, hq, hk⟩ := hrel
    have HQ := hid_intro hq
    clear hq
    by_cases hlt : j < i
    · have hj0 : (0 : Int) ≤ (j : Int) := by omega
      have hj1 : (j : Int) < (i : Int) := by omega
      have hj2 : (j : Int) < (n : Int) := by omega
      have hjl : j < ls.length := by rw [← HN.out]; omega
      obtain ⟨sa, sn, sc, c1, c2, _, _, _⟩ := HC.out j hjl
      obtain ⟨ta, tn, tc, d1, d2, _, _, _⟩ := HC.out i HI.out
      have c1 := hk.cell c1 (by simp)
      have c2 := hk.cell c2 (by simp)
      have d1 := hk.cell d1 (by simp)
      have d2 := hk.cell d2 (by simp)
      have hcs := again_cases (HD.out _ (List.getElem_mem hjl)) (HD.out _ (List.getElem_mem HI.out))
      have hnew : (ls.take (j + 1)).countP (fun a => clash a (nth ls i)) = q + if clash ls[j] (ls[i]'HI.out) = true then 1 else 0 := by
        rw [List.take_succ_eq_append_getElem hjl, List.countP_append, HQ.out, nth_at HI.out, List.countP_singleton]
      obtain ⟨cl, hcl⟩ : ∃ cl, cl = clash ls[j] (ls[i]'HI.out) := ⟨_, rfl⟩
      rw [← hcl] at hnew hcs
      have qs := beq_bl ls[j].name (ls[i]'HI.out).name
      obtain ⟨t, ht⟩ : ∃ t, t = kb ls[j].kind := ⟨_, rfl⟩
      obtain ⟨u, hu⟩ : ∃ u, u = kb (ls[i]'HI.out).kind := ⟨_, rfl⟩
      obtain ⟨xn, hxn⟩ : ∃ n, n = ls[j].name := ⟨_, rfl⟩
      obtain ⟨yn, hyn⟩ : ∃ n, n = (ls[i]'HI.out).name := ⟨_, rfl⟩
      rw [← ht] at c1 hcs
      rw [← hu] at d1 hcs
      rw [← hxn] at c2 qs hcs
      rw [← hyn] at d2 qs hcs
      have HNew := hid_intro hnew
      clear hcl ht hu hxn hyn hnew
      rcases hcs with ⟨hcl, f1, f2⟩ | ⟨hcl, f1, f2, f3⟩ | ⟨hcl, f1, f2, f3⟩ | ⟨hcl, f1, f2, f3, f4⟩ | ⟨hcl, f1, f2, f3, f4⟩ | ⟨hcl, f1, f2, f3, f4⟩ | ⟨hcl, f1, f2, f3, f4, f5⟩ | ⟨hcl, f1, f2, f3⟩ | ⟨hcl, f1, f2, f3, f4⟩
      any_goals (cases heq : decide (xn = yn) <;> rw [heq] at hcl qs <;> clear heq)
      all_goals
        rw [hcl] at HNew
        clear hcl
        go_wp2_with fail
        go_quiet (fail)
        go_wp2_with fail
        first
          | exact ⟨⟨j + 1, q + 1, by go_num, by go_num, by omega, by omega, HNew.out.symm, hk.trans ((Keeps.refl _ _).drewN _)⟩, by simp [intOf]; omega⟩
          | exact ⟨⟨j + 1, q, by go_num, rfl, by omega, by omega, HNew.out.symm, hk.trans ((Keeps.refl _ _).drewN _)⟩, by simp [intOf]; omega⟩
    · have hjn : ¬ (j : Int) < (i : Int) := by omega
      have hfin : q = againOf ls i := by
        have e : j = i := by omega
        rw [HQ.out, e]; rfl
      have HF := hid_intro hfin
      clear hfin
      go_wp2_with fail
      go_ret
      exact ⟨congrArg (fun z : Nat => Ending.returned (.int .i64 (z : Int))) HF.out, hk⟩

end Go.Proofs.YtmgjegokkbghlaaGreatDoor

namespace Go.Proofs.YtmgjegokkbghlaaGreatDoor
open Go.RowKit Go.Maps Gram Circ
set_option linter.unusedVariables false

theorem WS.len3 {w : World} {a : Option Addr} {n c : Nat} {l : List W} (h : WS w (.slice a n c) l) : n = l.length := by
  obtain ⟨_, _, e, _⟩ := h
  simp at e
  exact e.2.1
theorem Wds.len {w : World} {base : Nat} {v : Value} {l : List W} (h : Wds w base v l) : ∃ a c, v = .slice a l.length c := by
  rcases h.2 with ⟨h0, h1⟩ | ⟨g, cap, cur, hv, _⟩
  · exact ⟨none, 0, by rw [h0, h1]⟩
  · exact ⟨_, _, hv⟩
set_option maxRecDepth 100000 in
set_option maxHeartbeats 8000000 in
theorem rwrong_any {w : World} {v : Value} {ls : List Ln} (hv : LD w v ls) {i way : Nat} (hi : i < ls.length) (hw : 2 ≤ way ∧ way ≤ 5) :
    Calls Tryz.prog 17 #[v, .int .i64 (i : Int), .int .i64 (way : Int)] w fun e w' => e = .returned (.bool (wrongW ls way i)) ∧ Keeps [] w w' := by
  have HLD := hid_intro hv
  have HI := hid_intro hi
  obtain ⟨g, cap, rfl, hcap, hg, hfew, hD, hcells⟩ := hv
  obtain ⟨ea, en, ec, d1, d2, d3, d4, d5⟩ := hcells i hi
  have hd := hD _ (List.getElem_mem hi)
  have HD := hid_intro hD
  have HD1 := hid_intro hd
  obtain ⟨x, hx⟩ : ∃ x : Ln, x = ls[i]'hi := ⟨_, rfl⟩
  rw [← hx] at d1 d2 d3 d5
  have HX := hid_intro hx
  have HW5 := hid_intro d5
  obtain ⟨n, hnl⟩ : ∃ n, n = ls.length := ⟨_, rfl⟩
  rw [← hnl] at hcap hfew hi HLD ⊢
  have HN := hid_intro hnl
  have hi0 : (0 : Int) ≤ (i : Int) := by omega
  have hi1 : (i : Int) < (n : Int) := by omega
  obtain ⟨t, ht⟩ : ∃ t, t = kb x.kind := ⟨_, rfl⟩
  obtain ⟨nm, hnm⟩ : ∃ nm, nm = x.name := ⟨_, rfl⟩
  obtain ⟨f, hf⟩ : ∃ f, f = atB x.first := ⟨_, rfl⟩
  rw [← ht] at d1
  rw [← hnm] at d2
  rw [← hf] at d3
  have HT := hid_intro ht
  have HNm := hid_intro hnm
  clear hcells hnl hD hx d5 ht hnm hf hd
  go_enter Tryz.func17, Tryz.ntmps17
  go_upto_region 2 with fail
  have hkx := lineBox_keeps w t nm f (.slice ea en ec)
  obtain ⟨x0, x1, x2, x3⟩ := lineBox_cells w t nm f (.slice ea en ec)
  obtain ⟨wx, hwx⟩ : ∃ wx, wx = lineBox w t nm f (.slice ea en ec) := ⟨_, rfl⟩
  rw [← hwx] at hkx x0 x1 x2 x3
  unfold lineBox at hwx
  rw [← hwx]
  clear hwx d1 d2 d3 d4 x2
  have HLx := hid_intro (HLD.out.keeps hkx)
  have hways : way = 2 ∨ way = 3 ∨ way = 4 ∨ way = 5 := by omega
  rcases hways with rfl | rfl | rfl | rfl
  · have HC1 := hid_intro (ragain_any HLx.out HI.out)
    have hpos := again_pos ls i
    have hle := again_le ls i
    have HR : Hid (wrongW ls 2 i = decide (0 < againOf ls i)) := hpos.symm
    obtain ⟨q, hq⟩ : ∃ q, q = againOf ls i := ⟨_, rfl⟩
    rw [← hq] at HC1 HR hle
    clear hpos hq
    go_wp2_with fail
    refine Calls.mono HC1.out ?_
    rintro e w1 ⟨rfl, hk1⟩
    have hkf : Keeps [] w w1 := hkx.trans hk1
    clear HC1
    go_wp2_with fail
    go_ret
    exact ⟨ret_bool HR.out.symm, hkf⟩
  · have hLt : LD wx (.slice (some ⟨g, 0, none⟩) (i + 1) cap) (ls.take (i + 1)) := LD.take HLx.out HI.out
    have e1 : (namesOf 105 105 (ls.take (i + 1))).length = Circ.howMany 1 (ls.take (i + 1)) := by
      rw [show (105 : Int) = kb 1 from rfl, namesOf_one (by omega) (fun y hy => HD.out y (List.mem_of_mem_take hy)), named_howMany]
    have e2 : (namesOf 108 108 (ls.take (i + 1))).length = Circ.howMany 2 (ls.take (i + 1)) := by
      rw [show (108 : Int) = kb 2 from rfl, namesOf_one (by omega) (fun y hy => HD.out y (List.mem_of_mem_take hy)), named_howMany]
    have HR : Hid (wrongW ls 3 i = (decide (3 < Circ.howMany 1 (ls.take (i + 1))) || decide (4 < Circ.howMany 2 (ls.take (i + 1))))) := rfl
    have HC1 := hid_intro (rnames_any hLt 105 105)
    have HLt := hid_intro hLt
    obtain ⟨q1, hq1⟩ : ∃ q, q = Circ.howMany 1 (ls.take (i + 1)) := ⟨_, rfl⟩
    obtain ⟨q2, hq2⟩ : ∃ q, q = Circ.howMany 2 (ls.take (i + 1)) := ⟨_, rfl⟩
    rw [← hq1] at e1 HR
    rw [← hq2] at e2 HR
    have E1 := hid_intro e1
    have E2 := hid_intro e2
    obtain ⟨m, hm⟩ : ∃ m, m = i + 1 := ⟨_, rfl⟩
    have hmw : IntKind.i64.wrap ((i : Int) + 1) = (m : Int) := by rw [IntWalk.i64_in _ ⟨by omega, by omega⟩]; omega
    have hm0 : (0 : Int) ≤ (m : Int) := by omega
    have hm1 : (m : Int) ≤ (cap : Int) := by omega
    rw [← hm] at HC1 HLt E1 E2
    clear hLt hq1 hq2 e1 e2 hm
    go_wp2_with fail
    refine Calls.mono HC1.out ?_
    rintro e w1 ⟨u, rfl, hu, hk1⟩
    obtain ⟨ua, uc, rfl⟩ := hu.len
    rw [E1.out]
    clear HC1 hu
    by_cases h3 : 3 < q1
    · have h3i : (3 : Int) < (q1 : Int) := by omega
      have hkf : Keeps [] w w1 := hkx.trans hk1
      rw [decide_eq_true h3, Bool.true_or] at HR
      clear h3
      go_wp2_with fail
      go_ret
      exact ⟨ret_bool HR.out.symm, hkf⟩
    · have h3i : ¬ (3 : Int) < (q1 : Int) := by omega
      rw [decide_eq_false h3, Bool.false_or] at HR
      have HC2 := hid_intro (rnames_any (HLt.out.keeps hk1) 108 108)
      clear h3
      go_wp2_with fail
      refine Calls.mono HC2.out ?_
      rintro e w2 ⟨u, rfl, hu, hk2⟩
      obtain ⟨ub, uc2, rfl⟩ := hu.len
      rw [E2.out]
      have hkf : Keeps [] w w2 := (hkx.trans hk1).trans hk2
      clear HC2 hu
      by_cases h4 : 4 < q2
      · have h4i : (4 : Int) < (q2 : Int) := by omega
        rw [decide_eq_true h4] at HR
        clear h4
        go_wp2_with fail
        go_ret
        exact ⟨ret_bool HR.out.symm, hkf⟩
      · have h4i : ¬ (4 : Int) < (q2 : Int) := by omega
        rw [decide_eq_false h4] at HR
        clear h4
        go_wp2_with fail
        go_ret
        exact ⟨ret_bool (by rw [HR.out, decide_eq_false (show ¬ (3 : Int) < (q1 : Int) by omega), decide_eq_false (show ¬ (4 : Int) < (q2 : Int) by omega)]; rfl), hkf⟩
  · have e1 : namesOf 105 108 ls = declared ls := namesOf_decl HD.out
    have e2 : namesOf 108 108 ls = named 2 ls := namesOf_one (k := 2) (by omega) HD.out
    have hdl : (declared ls).length ≤ 2000 := by rw [← e1]; have := namesOf_len 105 108 ls; have := HN.out; omega
    have hnl2 : (named 2 ls).length ≤ 2000 := by rw [← e2]; have := namesOf_len 108 108 ls; have := HN.out; omega
    have HR0 : Hid (wrongW ls 4 i = ((x.kind == 3 && !has (named 2 ls) nm) || x.ws.any fun y => isName y && !has (declared ls) y)) := by
      show nameAt ls i = _
      rw [nameAt_ws HI.out HD.out, ← HX.out, HNm.out]
    have HC1 := hid_intro (rnames_any HLx.out 105 108)
    rw [e1] at HC1
    have E2 := hid_intro e2
    have HDl := hid_intro hdl
    have HNl := hid_intro hnl2
    have hwl : x.ws.length ≤ 1000 := by rw [HX.out]; exact HD1.out.few
    have hen := HW5.out.len3
    have HEn := hid_intro hen
    clear e1 e2 hdl hnl2 hen
    go_wp2_with fail
    refine Calls.mono HC1.out ?_
    rintro e w1 ⟨u, rfl, hu, hk1⟩
    have HU := hid_intro hu.ws
    have y0 := hk1.cell x0 (by simp)
    have y1 := hk1.cell x1 (by simp)
    have y3 := hk1.cell x3 (by simp)
    have HL1 := hid_intro (HLx.out.keeps hk1)
    have hkw1 : Keeps [] w w1 := hkx.trans hk1
    clear HC1 hu x0 x1 x3
    have s0 : w1.drew.cell? ⟨w.heap.size, 1, none⟩ = some (.string nm) ∧ True := ⟨((Keeps.refl [] w1).drew).cell y1 (by simp), trivial⟩
    obtain ⟨kn, hkn⟩ : ∃ kn, kn = has (named 2 ls) nm := ⟨_, rfl⟩
    have HKn := hid_intro hkn
    rw [← hkn] at HR0
    clear hkn
    go_wp2_with fail
    go_region_held3 (fun w' => w'.cell? ⟨w.heap.size, 1, none⟩ = some (.string nm) ∧ True)
      (first | exact s0 | exact s1 | assumption)
      (first
        | (go_at_call 18; refine (rnames_any (HL1.out.keeps (Keeps.refl [] w1).drew) 108 108).mono ?_; rintro e w2 ⟨u2, rfl, hu2, hk2⟩; have s1 : w2.cell? ⟨w.heap.size, 1, none⟩ = some (.string nm) ∧ True := ⟨hk2.cell s0.1 (by simp), trivial⟩; rw [E2.out] at hu2; have HU2 := hid_intro hu2.ws; clear hu2)
        | (go_at_call 49; refine (rin_any HU2.out HNl.out nm).mono ?_; rintro e w3 ⟨rfl, rfl⟩; rw [← HKn.out])
        | fail)
    have z0 := hk2.cell (((Keeps.refl [] w1).drew).cell y0 (by simp)) (by simp)
    have z3 := hk2.cell (((Keeps.refl [] w1).drew).cell y3 (by simp)) (by simp)
    have hkw2 : Keeps [] w w2 := (hkw1.drew).trans hk2
    have HUw := hid_intro ((HU.out.keeps (Keeps.refl [] w1).drew).keeps hk2)
    clear y0 y1 y3 s0 s1 HU2 HL1 HU
    have hkind : (t == 110) = (x.kind == 3) := by
      rw [HT.out, show (110 : Int) = kb 3 from rfl]
      exact kb_iff (by rw [HX.out]; exact HD1.out.kind) (by omega)
    obtain ⟨k3, hk3⟩ : ∃ b, b = (x.kind == 3) := ⟨_, rfl⟩
    rw [← hk3] at hkind HR0
    clear hk3
    have HRl : Hid ((k3 && !kn) = false → wrongW ls 4 i = x.ws.any fun y => isName y && !has (declared ls) y) := fun h => by rw [HR0.out, h, Bool.false_or]
    have HRt : Hid ((k3 && !kn) = true → wrongW ls 4 i = true) := fun h => by rw [HR0.out, h, Bool.true_or]
    clear HR0
    have hcomb : (k3 = true ∧ kn = false) ∨ (k3 = true ∧ kn = true) ∨ k3 = false := by cases k3 <;> cases kn <;> simp
    have HW2 := hid_intro (HW5.out.keeps hkw2)
    have henb : en ≤ 1000 := by rw [HEn.out]; exact hwl
    rcases hcomb with ⟨rfl, rfl⟩ | ⟨rfl, rfl⟩ | rfl
    · have HRr := hid_intro (HRt.out rfl)
      clear HRt HRl
      go_wp2_with fail
      go_ret
      exact ⟨ret_bool HRr.out.symm, hkw2⟩
    all_goals
      have HRr := hid_intro (HRl.out rfl)
      clear HRt HRl
      go_wp2_with fail
      go_loopw [10] (fun y wq => ∃ j : Nat, y = .int .i64 j ∧ j ≤ en ∧ (x.ws.any fun y => isName y && !has (declared ls) y) = ((x.ws.drop j).any fun y => isName y && !has (declared ls) y) ∧ wq = w2) (fun y _ => en - (intOf y).toNat)
      case atStart => exact ⟨0, rfl, by omega, by rw [List.drop_zero], rfl⟩
      case round =>
        obtain ⟨j, rfl, hj, hst, hwq⟩ := hrel
        have hwq := hwq.symm
        subst hwq
        by_cases hlt : j < en
        · have hj0 : (0 : Int) ≤ (j : Int) := by omega
          have hj1 : (j : Int) < (en : Int) := by omega
          have hjl : j < x.ws.length := by rw [← HEn.out]; exact hlt
          obtain ⟨b, of, hab, hb, hcw⟩ := HW2.out.word hjl
          subst hab
          rw [List.drop_eq_getElem_cons hjl, List.any_cons] at hst
          obtain ⟨z, hz⟩ : ∃ z, z = x.ws[j] := ⟨_, rfl⟩
          rw [← hz] at hcw hst
          obtain ⟨nz, hnz⟩ : ∃ b, b = isName z := ⟨_, rfl⟩
          obtain ⟨tz, htz⟩ : ∃ b, b = has (declared ls) z := ⟨_, rfl⟩
          rw [← hnz, ← htz] at hst
          have HNz := hid_intro hnz
          have HTz := hid_intro htz
          have HSt := hid_intro (HRr.out.trans hst)
          have HSt2 := hid_intro hst
          clear hz hnz htz hst
          go_wp2_with fail
          refine Calls.mono (risName_any z) ?_
          rintro e w3 ⟨rfl, rfl⟩
          rw [← HNz.out]
          go_wp2_with fail
          refine Calls.mono (rin_any HUw.out HDl.out z) ?_
          rintro e w3 ⟨rfl, rfl⟩
          rw [← HTz.out]
          cases nz
          · go_wp2_with fail
            exact ⟨⟨j + 1, by go_num, by omega, by rw [HSt2.out]; rfl, trivial⟩, by simp [intOf]; omega⟩
          · cases tz
            · go_wp2_with fail
              go_ret
              exact ⟨ret_bool (by rw [HSt.out]; rfl), hkw2⟩
            · go_wp2_with fail
              exact ⟨⟨j + 1, by go_num, by omega, by rw [HSt2.out]; rfl, trivial⟩, by simp [intOf]; omega⟩
        · have hjn : ¬ (j : Int) < (en : Int) := by omega
          have hfin : wrongW ls 4 i = false := by
            rw [HRr.out, hst, List.drop_of_length_le (by rw [← HEn.out]; omega)]
            rfl
          have HF := hid_intro hfin
          clear hst hfin
          go_wp2_with fail
          go_ret
          exact ⟨ret_bool HF.out.symm, hkw2⟩
  · have e2 : namesOf 110 110 ls = named 3 ls := namesOf_one (k := 3) (by omega) HD.out
    have hnl2 : (named 3 ls).length ≤ 2000 := by rw [← e2]; have := namesOf_len 110 110 ls; have := HN.out; omega
    have HR0 : Hid (wrongW ls 5 i = (x.kind == 2 && !has (named 3 ls) nm)) := by
      show lackAt ls i = _
      unfold lackAt
      rw [nth_at HI.out, ← HX.out, HNm.out]
    have E2 := hid_intro e2
    have HNl := hid_intro hnl2
    have s0 : wx.drew.cell? ⟨w.heap.size, 1, none⟩ = some (.string nm) ∧ True := ⟨((Keeps.refl [] wx).drew).cell x1 (by simp), trivial⟩
    obtain ⟨kn, hkn⟩ : ∃ kn, kn = has (named 3 ls) nm := ⟨_, rfl⟩
    have HKn := hid_intro hkn
    rw [← hkn] at HR0
    clear hkn e2 hnl2
    go_wp2_with fail
    go_region_held3 (fun w' => w'.cell? ⟨w.heap.size, 1, none⟩ = some (.string nm) ∧ True)
      (first | exact s0 | exact s1 | assumption)
      (first
        | (go_at_call 18; refine (rnames_any (HLx.out.keeps (Keeps.refl [] wx).drew) 110 110).mono ?_; rintro e w2 ⟨u2, rfl, hu2, hk2⟩; have s1 : w2.cell? ⟨w.heap.size, 1, none⟩ = some (.string nm) ∧ True := ⟨hk2.cell s0.1 (by simp), trivial⟩; rw [E2.out] at hu2; have HU2 := hid_intro hu2.ws; clear hu2)
        | (go_at_call 49; refine (rin_any HU2.out HNl.out nm).mono ?_; rintro e w3 ⟨rfl, rfl⟩; rw [← HKn.out])
        | fail)
    have z0 := hk2.cell (((Keeps.refl [] wx).drew).cell x0 (by simp)) (by simp)
    have hkw2 : Keeps [] w w2 := (hkx.drew).trans hk2
    clear x0 x1 x3 s0 s1 HU2
    have hkind : (t == 108) = (x.kind == 2) := by
      rw [HT.out, show (108 : Int) = kb 2 from rfl]
      exact kb_iff (by rw [HX.out]; exact HD1.out.kind) (by omega)
    obtain ⟨k3, hk3⟩ : ∃ b, b = (x.kind == 2) := ⟨_, rfl⟩
    rw [← hk3] at hkind HR0
    clear hk3
    cases k3
    · go_wp2_with fail
      go_ret
      exact ⟨ret_bool (by rw [HR0.out]; rfl), hkw2⟩
    · cases kn
      all_goals
        go_wp2_with fail
        go_ret
        exact ⟨ret_bool (by rw [HR0.out]; rfl), hkw2⟩

end Go.Proofs.YtmgjegokkbghlaaGreatDoor
