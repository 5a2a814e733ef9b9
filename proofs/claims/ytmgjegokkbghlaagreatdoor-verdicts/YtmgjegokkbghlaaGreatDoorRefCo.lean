/- The document's reader: letter, digit, isName, words. The document's reader: end, closed, split. The document's Comes: what it is to answer (plain). The document's in, values, number. The document's Comes, walked. The document's lines in memory; what say answers (plain, and words for memory). -/
import Derived.Test.YtmgjegokkbghlaaGreatDoorGatherC
import Derived.Deep.CutRange
import Derived.Test.YtmgjegokkbghlaaGreatDoorDigits
import Derived.Test.YtmgjegokkbghlaaGreatDoorImage
namespace Go.Proofs.YtmgjegokkbghlaaGreatDoor
open Go.RowKit Go.Maps Gram Circ
set_option linter.unusedVariables false

set_option maxRecDepth 100000 in
theorem rletter_any {w : World} (c : UInt8) :
    Calls Tryz.prog 75 #[.int .u8 (c.toNat : Int)] w fun e w' => e = .returned (.bool (letter c)) ∧ w = w' := by
  have hl := letter_eq c
  have HL : Hid (letter c = (decide ((97 : Int) ≤ (c.toNat : Int)) && decide ((c.toNat : Int) ≤ 122))) := hl
  clear hl
  go_enter Tryz.func75, Tryz.ntmps75
  go_wp2
  all_goals go_ret
  all_goals refine ⟨ret_bool ?_, rfl⟩
  all_goals rw [HL.out]
  all_goals (try simp_all)
  all_goals omega
set_option maxRecDepth 100000 in
theorem rdigit_any {w : World} (c : UInt8) :
    Calls Tryz.prog 76 #[.int .u8 (c.toNat : Int)] w fun e w' => e = .returned (.bool (digit c)) ∧ w = w' := by
  have hl := digit_eq c
  have HL : Hid (digit c = (decide ((48 : Int) ≤ (c.toNat : Int)) && decide ((c.toNat : Int) ≤ 57))) := hl
  clear hl
  go_enter Tryz.func76, Tryz.ntmps76
  go_wp2
  all_goals go_ret
  all_goals refine ⟨ret_bool ?_, rfl⟩
  all_goals rw [HL.out]
  all_goals (try simp_all)
  all_goals omega
set_option maxRecDepth 100000 in
set_option maxHeartbeats 400000 in
theorem risName_any {w : World} (s : ByteArray) :
    Calls Tryz.prog 46 #[.string s] w fun e w' => e = .returned (.bool (isName s)) ∧ w = w' := by
  by_cases h0 : s = mk []
  · have q0 := lit_eq s [] true (by simpa using h0)
    have HN : Hid (isName s = false) := by show isName s = false; rw [h0]; decide
    clear h0
    go_enter Tryz.func46, Tryz.ntmps46
    go_wp2_with fail
    go_ret
    exact ⟨ret_bool HN.out.symm, rfl⟩
  · have q0 := lit_eq s [] false (by simpa using h0)
    have h : 0 < s.size := by
      rcases Nat.eq_zero_or_pos s.size with e | e
      · exact absurd (bl_ext (by rw [bl_mk, ← List.length_eq_zero_iff, bl_len]; exact e)) h0
      · exact e
    have HL : Hid (isName s = (letter s[0] && decide (s.size ≤ 8))) := isName_bl s h
    clear h0
    cases hl : letter s[0]
    all_goals
      have HB : Hid (letter s[0] = _) := hl
      clear hl
      go_enter Tryz.func46, Tryz.ntmps46
      go_wp2_with (first | (go_at_call 75; refine (rletter_any s[0]).mono ?_; rintro e w' ⟨rfl, rfl⟩; rw [HB.out]))
      all_goals go_ret
      all_goals refine ⟨ret_bool ?_, rfl⟩
      all_goals rw [HL.out, HB.out]
      all_goals (try simp_all)
      all_goals omega
theorem drop_at (s : ByteArray) {i : Nat} (h : i < s.size) : (bl s).drop i = s[i] :: (bl s).drop (i + 1) := by
  rw [List.drop_eq_getElem_cons (by rw [bl_len]; exact h)]
  rfl
theorem drop_get (s : ByteArray) {i j : Nat} (h : i ≤ j) (hj : j < s.size) : ((bl s).drop i)[j - i]'(by rw [List.length_drop, bl_len]; omega) = s[j] := by
  rw [List.getElem_drop]
  have : i + (j - i) = j := by omega
  simp only [this]
  rfl
theorem excl (c : UInt8) (h : letter c = true) : digit c = false := by
  rw [letter_eq] at h
  rw [digit_eq]
  simp at h ⊢
  omega

theorem ext_one (s : ByteArray) {i : Nat} {c : UInt8} (h : i < s.size) (hc : c = s[i]) : s.extract i (i + 1) = mk [c] := by
  apply bl_ext
  rw [bl_extract, bl_mk, List.drop_take, Nat.add_sub_cancel_left, drop_at s h, hc]
  rfl
theorem okW_is (c : UInt8) (tw : List UInt8) : okW (c :: tw) = (decide (mk (c :: tw) = mk [48]) || decide (mk (c :: tw) = mk [49]) || (letter c && decide ((c :: tw).length ≤ 8))) := by
  have h1 : ∀ d : List UInt8, ((c :: tw) == d) = decide (mk (c :: tw) = mk d) := fun d => by
    rw [Bool.eq_iff_iff, beq_iff_eq, decide_eq_true_iff]
    exact ⟨fun e => by rw [e], fun e => by have := congrArg bl e; rwa [bl_mk, bl_mk] at this⟩
  have h2 : isName (mk (c :: tw)) = (letter c && decide ((c :: tw).length ≤ 8)) := by
    rw [isName_bl _ (by rw [mk_size]; simp)]
    rfl
  unfold okW
  rw [h2, h1, h1]
  cases letter c && decide ((c :: tw).length ≤ 8) <;> cases decide (mk (c :: tw) = mk [48]) <;> simp
theorem tw_take (l : List UInt8) : l.take (l.takeWhile an).length = l.takeWhile an := (List.prefix_iff_eq_take.1 (List.takeWhile_prefix an)).symm
theorem tw_drop : ∀ l : List UInt8, l.drop (l.takeWhile an).length = l.dropWhile an
  | [] => rfl
  | x :: t => by
    rw [List.takeWhile_cons, List.dropWhile_cons]
    split
    · simpa using tw_drop t
    · rfl
theorem ext_word (s : ByteArray) {i j T : Nat} {c : UInt8} (h : i < s.size) (hc : c = s[i]) (hj : i + 1 ≤ j) (hT : T = j - (i + 1)) (hT2 : T = (((bl s).drop (i + 1)).takeWhile an).length) : s.extract i j = mk (c :: ((bl s).drop (i + 1)).takeWhile an) := by
  apply bl_ext
  rw [bl_extract, bl_mk, List.drop_take, drop_at s h, ← hc, show j - i = T + 1 by omega, List.take_succ_cons, hT2, tw_take]
theorem drop_word (s : ByteArray) {i j T : Nat} (hj : i + 1 ≤ j) (hT : T = j - (i + 1)) (hT2 : T = (((bl s).drop (i + 1)).takeWhile an).length) : ((bl s).drop (i + 1)).dropWhile an = (bl s).drop j := by
  rw [← tw_drop, ← hT2, List.drop_drop]
  congr 1
  omega
theorem ext_size (s : ByteArray) {i j : Nat} (h : i ≤ j) (hj : j ≤ s.size) : (s.extract i j).size = j - i := by
  rw [← bl_len, bl_extract, List.length_drop, List.length_take, bl_len]
  omega
theorem sign_no {c : UInt8} (h : sign c = false) : ((c.toNat : Int) == 61) = false ∧ ((c.toNat : Int) == 63) = false ∧ ((c.toNat : Int) == 33) = false ∧ ((c.toNat : Int) == 38) = false ∧ ((c.toNat : Int) == 94) = false ∧ ((c.toNat : Int) == 124) = false ∧ ((c.toNat : Int) == 40) = false ∧ ((c.toNat : Int) == 41) = false := by
  have key : ∀ d : UInt8, (c == d) = false → ((c.toNat : Int) == (d.toNat : Int)) = false := fun d hd => by
    have : c ≠ d := by simpa using hd
    have h2 : ¬ c.toNat = d.toNat := fun e => this (UInt8.toNat_inj.1 e)
    simp
    omega
  unfold sign at h
  simp only [Bool.or_eq_false_iff] at h
  obtain ⟨⟨⟨⟨⟨⟨⟨h1, h2⟩, h3⟩, h4⟩, h5⟩, h6⟩, h7⟩, h8⟩ := h
  exact ⟨key _ h1, key _ h2, key _ h3, key _ h4, key _ h5, key _ h6, key _ h7, key _ h8⟩
theorem sign_yes {c : UInt8} (h : sign c = true) : (c.toNat : Int) = 61 ∨ (c.toNat : Int) = 63 ∨ (c.toNat : Int) = 33 ∨ (c.toNat : Int) = 38 ∨ (c.toNat : Int) = 94 ∨ (c.toNat : Int) = 124 ∨ (c.toNat : Int) = 40 ∨ (c.toNat : Int) = 41 := by
  unfold sign at h
  simp only [Bool.or_eq_true, beq_iff_eq] at h
  rcases h with ((((((h | h) | h) | h) | h) | h) | h) | h <;> subst h <;> simp
theorem push_keeps' {T : Nat} {w wr w1 : World} {v : Value} {n k : Nat} {xs : List Value} {o : Obj} (hrow : wr.ownsRow w.heap.size T k v n xs) (hg : (wr.alloc o).grownBy w1 v.ownBlock) (hk : Keeps [] w wr) : Keeps [] w w1 := by
  have h1 : Keeps (v.ownBlock.toList) wr w1 := ((Keeps.refl _ _).alloc o).grown hg (fun k e => Or.inl (by simp [e]))
  refine ((hk.mono (S' := v.ownBlock.toList) (by simp)).trans h1).strike (fun i hi hlt => ?_)
  have := own_base hrow i (by simpa using hi)
  omega

set_option maxRecDepth 100000 in
set_option maxHeartbeats 2000000 in
theorem rwords_any {w : World} (s : ByteArray) (hs : s.size ≤ 1000) :
    Calls Tryz.prog 45 #[.string s] w fun e w' => Keeps [] w w' ∧ SplitIs s w.heap.size e w' := by
  obtain ⟨i0, hi0, hz0, hz1, hz2⟩ := info_parts infoStr
  have hml : 2000000 < maxLen := by decide
  obtain ⟨Z, hZ⟩ : ∃ Z, ByteArray.size s = Z := ⟨_, rfl⟩
  go_enter Tryz.func45, Tryz.ntmps45
  go_wp2_with fail
  go_loopw [4, 5] (fun v x wr => ∃ (ws : List W) (i : Nat), x = .int .i64 i ∧ i ≤ s.size ∧ Wds wr w.heap.size v ws ∧ ws.length ≤ i ∧ wordsOf (bl s) = (wordsOf ((bl s).drop i)).map (ws ++ ·) ∧ Keeps [] w wr) (fun _ x _ => s.size - (intOf x).toNat)
  case atStart =>
    refine ⟨[], 0, rfl, by omega, World.ownsRow_nil _ _ _ _, by simp, ?_, Keeps.refl _ _⟩
    rw [List.drop_zero]
    simp
  case round =>
    obtain ⟨ws, i, rfl, hi, hown, hwl, hwo, hk⟩ := hrel
    have HW := hid_intro hwo
    have HOwn := hid_intro hown
    have hbase := hk.size
    clear hwo hown
    by_cases hlt : i < s.size
    · have hi0' : (0 : Int) ≤ (i : Int) := by omega
      have hi1 : (i : Int) < (s.size : Int) := by omega
      obtain ⟨c, hc⟩ : ∃ c, c = s[i] := ⟨_, rfl⟩
      have hdr := drop_at s hlt
      rw [← hc] at hdr
      by_cases h32 : c = 32
      · have hcw : wordsOf (bl s) = (wordsOf ((bl s).drop (i + 1))).map (ws ++ ·) := by rw [HW.out, hdr, h32, wordsOf_blank]
        have HN := hid_intro hcw
        have q : ((s[i].toNat : Int) == 32) = true := by rw [← hc, h32]; rfl
        clear hcw hdr hc
        go_wp2_with fail
        exact ⟨⟨ws, i + 1, by go_num, by omega, HOwn.out, by omega, HN.out, hk⟩, by simp [intOf]; omega⟩
      · have q32 : ((s[i].toNat : Int) == 32) = false := by
          rw [← hc]
          have : ¬ c.toNat = 32 := fun h => h32 (UInt8.toNat_inj.1 (by rw [h]; rfl))
          simp
          omega
        cases hl : letter c
        · cases hd : digit c
          · have HL0 : Hid (letter s[i] = false) := by show _ = _; rw [← hc]; exact hl
            have HD0 : Hid (digit s[i] = false) := by show _ = _; rw [← hc]; exact hd
            have hv : (s[i].toNat : Int) = (c.toNat : Int) := by rw [← hc]
            have HV := hid_intro hv
            have hws := wordsOf_sign (c := c) (by unfold an; rw [hl, hd]; rfl) h32 ((bl s).drop (i + 1))
            have HWs := hid_intro (HW.out.trans (by rw [hdr, hws]))
            have HX := hid_intro (ext_one s hlt hc)
            clear hl hd hv hws hdr hc
            go_upto_region 14 with (first
              | (go_at_call 75; refine (rletter_any s[i]).mono ?_; rintro e w' ⟨rfl, rfl⟩; rw [HL0.out])
              | (go_at_call 76; refine (rdigit_any s[i]).mono ?_; rintro e w' ⟨rfl, rfl⟩; rw [HD0.out])
              | fail)
            have hv := HV.out
            cases hsg : sign c
            · have hn := sign_no hsg
              have HNo : Hid (wordsOf (bl s) = none) := by show _ = _; rw [HWs.out, hsg]; simp
              obtain ⟨y1, y2, y3, y4, y5, y6, y7, y8⟩ := hn
              rw [hv]
              clear hv
              obtain ⟨t, ht⟩ : ∃ t : Int, t = (c.toNat : Int) := ⟨_, rfl⟩
              rw [← ht] at y1 y2 y3 y4 y5 y6 y7 y8 ⊢
              clear ht
              have m1 : (t != 61) = true := by simp only [bne, y1]; rfl
              have m2 : (t != 63) = true := by simp only [bne, y2]; rfl
              have m3 : (t != 33) = true := by simp only [bne, y3]; rfl
              have m4 : (t != 38) = true := by simp only [bne, y4]; rfl
              have m5 : (t != 94) = true := by simp only [bne, y5]; rfl
              have m6 : (t != 124) = true := by simp only [bne, y6]; rfl
              have m7 : (t != 40) = true := by simp only [bne, y7]; rfl
              have m8 : (t != 41) = true := by simp only [bne, y8]; rfl
              go_wp2_with fail
              go_ret2
              exact ⟨hk, splitIs_no HNo.out⟩
            · have hone := sign_yes hsg
              have HNo : Hid (wordsOf (bl s) = (wordsOf ((bl s).drop (i + 1))).map ((ws ++ [mk [c]]) ++ ·)) := by
                show _ = _
                rw [HWs.out, hsg, if_pos rfl]
                cases wordsOf ((bl s).drop (i + 1)) <;> simp
              rw [hv]
              clear hv
              rcases hone with h | h | h | h | h | h | h | h
              all_goals
                rw [h]
                go_wp2_with (first
                  | (at_builtin; refine wpList_append_own_at _ rfl _ _ 32 rfl w.heap.size 9 i0 (.string ByteArray.empty) 1 16 Tryz.underlying32 hi0 hz0 hz1 hz2 rfl (by decide) _ ws.length (ws.map Value.string) rfl (HOwn.out.alloc _) ⟨wr.heap.size, 0, none⟩ 1 1 [_] rfl rfl (cells_new _ _ _) (by simp [Value.oneCell']) (by omega) (by omega) (by simp; omega) ?_; intro v' w1 hown' hgrow hnil hloc; have HOW := hid_intro hown'; have HGR := hid_intro hgrow; clear hown' hgrow hloc hnil)
                  | fail)
                have hk1 := push_keeps' HOwn.out HGR.out hk
                refine ⟨⟨ws ++ [mk [c]], i + 1, by go_num, by omega, ?_, by simp; omega, HNo.out, hk1⟩, by simp [intOf]; omega⟩
                have := HOW.out
                rw [HX.out] at this
                unfold Wds
                rw [List.map_append, List.length_append]
                exact this
          · skip
            have HL0 : Hid (letter s[i] = false) := by show _ = _; rw [← hc]; exact hl
            have HD0 : Hid (digit s[i] = true) := by show _ = _; rw [← hc]; exact hd
            have han : an c = true := by unfold an; rw [hl, hd]; rfl
            have hws := wordsOf_word han ((bl s).drop (i + 1))
            have HWs := hid_intro (HW.out.trans (by rw [hdr, hws]))
            obtain ⟨T, hT⟩ : ∃ T, T = (((bl s).drop (i + 1)).takeWhile an).length := ⟨_, rfl⟩
            have HT := hid_intro hT
            have hTle : i + 1 + T ≤ s.size := by have := tw_le ((bl s).drop (i + 1)); rw [List.length_drop, bl_len] at this; omega
            have hc0 := hid_intro hc
            clear hws hdr hT hc
            go_wp2_with (first
              | (go_at_call 75; refine (rletter_any s[i]).mono ?_; rintro e w' ⟨rfl, rfl⟩; rw [HL0.out])
              | (go_at_call 76; refine (rdigit_any s[i]).mono ?_; rintro e w' ⟨rfl, rfl⟩; rw [HD0.out])
              | fail)
            go_loopw [5] (fun x wq => ∃ j : Nat, x = .int .i64 j ∧ i + 1 ≤ j ∧ j ≤ i + 1 + T ∧ wq = wr) (fun x _ => s.size - (intOf x).toNat)
            case atStart => exact ⟨i + 1, by go_num, by omega, by omega, rfl⟩
            case round =>
              obtain ⟨j, rfl, hj1, hj2, hwq⟩ := hrel
              have hwq := hwq.symm
              subst hwq
              by_cases hjs : j < s.size
              · have hj0 : (0 : Int) ≤ (j : Int) := by omega
                have hj3 : (j : Int) < (s.size : Int) := by omega
                have hat := tw_at ((bl s).drop (i + 1)) (j - (i + 1)) (by rw [List.length_drop, bl_len]; omega) (by rw [← HT.out]; omega)
                rw [drop_get s hj1 hjs, ← HT.out] at hat
                have HA := hid_intro hat
                clear hat
                cases hc1 : letter s[j] <;> cases hd1 : digit s[j]
                all_goals
                  have HC1 : Hid (letter s[j] = _) := hc1
                  have HD1 : Hid (digit s[j] = _) := hd1
                  clear hc1 hd1
                · have hTj : T = j - (i + 1) := HA.out.2 (by simp [an, HC1.out, HD1.out])
                  go_upto_region 11 with (first
                    | (go_at_call 75; refine (rletter_any s[j]).mono ?_; rintro e w' ⟨rfl, rfl⟩; rw [HC1.out])
                    | (go_at_call 76; refine (rdigit_any s[j]).mono ?_; rintro e w' ⟨rfl, rfl⟩; rw [HD1.out])
                    | fail)
                  have HPx := hid_intro (ext_word s hlt hc0.out hj1 hTj HT.out)
                  have HDj := hid_intro (drop_word s hj1 hTj HT.out)
                  obtain ⟨p, hp⟩ : ∃ p, p = mk (c :: ((bl s).drop (i + 1)).takeWhile an) := ⟨_, rfl⟩
                  have HP := hid_intro hp
                  rw [← hp] at HPx
                  have hpz : p.size = j - i := by rw [← HPx.out]; exact ext_size s (by omega) (by omega)
                  have HPz := hid_intro hpz
                  clear hp hpz
                  go_upto_region 12 with fail
                  rw [HPx.out]
                  by_cases z0 : p = mk [48]
                  · have q0 := lit_eq p [48] true (by simpa using z0)
                    have Z0 := hid_intro z0
                    clear z0
                    have HOk : Hid (okW (c :: ((bl s).drop (i + 1)).takeWhile an) = true) := by show _ = _; rw [okW_is]; rw [← HP.out, Z0.out]; rfl
                    have HNo : Hid (wordsOf (bl s) = (wordsOf ((bl s).drop j)).map ((ws ++ [p]) ++ ·)) := by
                      show _ = _
                      rw [HWs.out, HOk.out, if_pos rfl, HDj.out, ← HP.out]
                      cases wordsOf ((bl s).drop j) <;> simp
                    go_wp2_with (first
                      | (go_at_call 76; refine (rdigit_any s[i]).mono ?_; rintro e w' ⟨rfl, rfl⟩; rw [HD0.out])
                      | (at_builtin; refine wpList_append_own_at _ rfl _ _ 32 rfl w.heap.size 9 i0 (.string ByteArray.empty) 1 16 Tryz.underlying32 hi0 hz0 hz1 hz2 rfl (by decide) _ ws.length (ws.map Value.string) rfl (HOwn.out.alloc _) ⟨wr.heap.size, 0, none⟩ 1 1 [_] rfl rfl (cells_new _ _ _) (by simp [Value.oneCell']) (by omega) (by omega) (by simp; omega) ?_; intro v' w1 hown' hgrow hnil hloc; have HOW := hid_intro hown'; have HGR := hid_intro hgrow; clear hown' hgrow hloc hnil)
                      | fail)
                    have hk1 := push_keeps' HOwn.out HGR.out hk
                    refine ⟨⟨ws ++ [p], j, by go_num, by omega, ?_, by simp; omega, HNo.out, hk1⟩, by simp [intOf]; omega⟩
                    have := HOW.out
                    rw [HPx.out] at this
                    unfold Wds
                    rw [List.map_append, List.length_append]
                    exact this
                  · have q0 := lit_eq p [48] false (by simpa using z0)
                    by_cases z1 : p = mk [49]
                    · have q1 := lit_eq p [49] true (by simpa using z1)
                      have Z1 := hid_intro z1
                      clear z1
                      have HOk : Hid (okW (c :: ((bl s).drop (i + 1)).takeWhile an) = true) := by show _ = _; rw [okW_is]; rw [← HP.out, Z1.out]; rfl
                      have HNo : Hid (wordsOf (bl s) = (wordsOf ((bl s).drop j)).map ((ws ++ [p]) ++ ·)) := by
                        show _ = _
                        rw [HWs.out, HOk.out, if_pos rfl, HDj.out, ← HP.out]
                        cases wordsOf ((bl s).drop j) <;> simp
                      go_wp2_with (first
                        | (go_at_call 76; refine (rdigit_any s[i]).mono ?_; rintro e w' ⟨rfl, rfl⟩; rw [HD0.out])
                        | (at_builtin; refine wpList_append_own_at _ rfl _ _ 32 rfl w.heap.size 9 i0 (.string ByteArray.empty) 1 16 Tryz.underlying32 hi0 hz0 hz1 hz2 rfl (by decide) _ ws.length (ws.map Value.string) rfl (HOwn.out.alloc _) ⟨wr.heap.size, 0, none⟩ 1 1 [_] rfl rfl (cells_new _ _ _) (by simp [Value.oneCell']) (by omega) (by omega) (by simp; omega) ?_; intro v' w1 hown' hgrow hnil hloc; have HOW := hid_intro hown'; have HGR := hid_intro hgrow; clear hown' hgrow hloc hnil)
                        | fail)
                      have hk1 := push_keeps' HOwn.out HGR.out hk
                      refine ⟨⟨ws ++ [p], j, by go_num, by omega, ?_, by simp; omega, HNo.out, hk1⟩, by simp [intOf]; omega⟩
                      have := HOW.out
                      rw [HPx.out] at this
                      unfold Wds
                      rw [List.map_append, List.length_append]
                      exact this
                    · have q1 := lit_eq p [49] false (by simpa using z1)
                      have HOk : Hid (okW (c :: ((bl s).drop (i + 1)).takeWhile an) = false) := by show _ = _; rw [okW_is, ← HP.out, hl]; simp [z0, z1]
                      have HNo : Hid (wordsOf (bl s) = none) := by show _ = _; rw [HWs.out, HOk.out]; simp
                      go_wp2_with (first
                        | (go_at_call 76; refine (rdigit_any s[i]).mono ?_; rintro e w' ⟨rfl, rfl⟩; rw [HD0.out])
                        | fail)
                      go_ret2
                      exact ⟨hk, splitIs_no HNo.out⟩
                · go_wp2_with (first
                    | (go_at_call 75; refine (rletter_any s[j]).mono ?_; rintro e w' ⟨rfl, rfl⟩; rw [HC1.out])
                    | (go_at_call 76; refine (rdigit_any s[j]).mono ?_; rintro e w' ⟨rfl, rfl⟩; rw [HD1.out])
                    | fail)
                  have hnx := HA.out.1 (by simp [an, HC1.out, HD1.out])
                  exact ⟨⟨j + 1, by go_num, by omega, by omega, trivial⟩, by simp [intOf]; omega⟩
                · go_wp2_with (first
                    | (go_at_call 75; refine (rletter_any s[j]).mono ?_; rintro e w' ⟨rfl, rfl⟩; rw [HC1.out])
                    | (go_at_call 76; refine (rdigit_any s[j]).mono ?_; rintro e w' ⟨rfl, rfl⟩; rw [HD1.out])
                    | fail)
                  have hnx := HA.out.1 (by simp [an, HC1.out, HD1.out])
                  exact ⟨⟨j + 1, by go_num, by omega, by omega, trivial⟩, by simp [intOf]; omega⟩
                · go_wp2_with (first
                    | (go_at_call 75; refine (rletter_any s[j]).mono ?_; rintro e w' ⟨rfl, rfl⟩; rw [HC1.out])
                    | (go_at_call 76; refine (rdigit_any s[j]).mono ?_; rintro e w' ⟨rfl, rfl⟩; rw [HD1.out])
                    | fail)
                  have hnx := HA.out.1 (by simp [an, HC1.out, HD1.out])
                  exact ⟨⟨j + 1, by go_num, by omega, by omega, trivial⟩, by simp [intOf]; omega⟩
              · have hje : ¬ (j : Int) < (s.size : Int) := by omega
                have hTj : T = j - (i + 1) := by omega
                go_upto_region 11 with fail
                have HPx := hid_intro (ext_word s hlt hc0.out hj1 hTj HT.out)
                have HDj := hid_intro (drop_word s hj1 hTj HT.out)
                obtain ⟨p, hp⟩ : ∃ p, p = mk (c :: ((bl s).drop (i + 1)).takeWhile an) := ⟨_, rfl⟩
                have HP := hid_intro hp
                rw [← hp] at HPx
                have hpz : p.size = j - i := by rw [← HPx.out]; exact ext_size s (by omega) (by omega)
                have HPz := hid_intro hpz
                clear hp hpz
                go_upto_region 12 with fail
                rw [HPx.out]
                by_cases z0 : p = mk [48]
                · have q0 := lit_eq p [48] true (by simpa using z0)
                  have Z0 := hid_intro z0
                  clear z0
                  have HOk : Hid (okW (c :: ((bl s).drop (i + 1)).takeWhile an) = true) := by show _ = _; rw [okW_is]; rw [← HP.out, Z0.out]; rfl
                  have HNo : Hid (wordsOf (bl s) = (wordsOf ((bl s).drop j)).map ((ws ++ [p]) ++ ·)) := by
                    show _ = _
                    rw [HWs.out, HOk.out, if_pos rfl, HDj.out, ← HP.out]
                    cases wordsOf ((bl s).drop j) <;> simp
                  go_wp2_with (first
                    | (go_at_call 76; refine (rdigit_any s[i]).mono ?_; rintro e w' ⟨rfl, rfl⟩; rw [HD0.out])
                    | (at_builtin; refine wpList_append_own_at _ rfl _ _ 32 rfl w.heap.size 9 i0 (.string ByteArray.empty) 1 16 Tryz.underlying32 hi0 hz0 hz1 hz2 rfl (by decide) _ ws.length (ws.map Value.string) rfl (HOwn.out.alloc _) ⟨wr.heap.size, 0, none⟩ 1 1 [_] rfl rfl (cells_new _ _ _) (by simp [Value.oneCell']) (by omega) (by omega) (by simp; omega) ?_; intro v' w1 hown' hgrow hnil hloc; have HOW := hid_intro hown'; have HGR := hid_intro hgrow; clear hown' hgrow hloc hnil)
                    | fail)
                  have hk1 := push_keeps' HOwn.out HGR.out hk
                  refine ⟨⟨ws ++ [p], j, by go_num, by omega, ?_, by simp; omega, HNo.out, hk1⟩, by simp [intOf]; omega⟩
                  have := HOW.out
                  rw [HPx.out] at this
                  unfold Wds
                  rw [List.map_append, List.length_append]
                  exact this
                · have q0 := lit_eq p [48] false (by simpa using z0)
                  by_cases z1 : p = mk [49]
                  · have q1 := lit_eq p [49] true (by simpa using z1)
                    have Z1 := hid_intro z1
                    clear z1
                    have HOk : Hid (okW (c :: ((bl s).drop (i + 1)).takeWhile an) = true) := by show _ = _; rw [okW_is]; rw [← HP.out, Z1.out]; rfl
                    have HNo : Hid (wordsOf (bl s) = (wordsOf ((bl s).drop j)).map ((ws ++ [p]) ++ ·)) := by
                      show _ = _
                      rw [HWs.out, HOk.out, if_pos rfl, HDj.out, ← HP.out]
                      cases wordsOf ((bl s).drop j) <;> simp
                    go_wp2_with (first
                      | (go_at_call 76; refine (rdigit_any s[i]).mono ?_; rintro e w' ⟨rfl, rfl⟩; rw [HD0.out])
                      | (at_builtin; refine wpList_append_own_at _ rfl _ _ 32 rfl w.heap.size 9 i0 (.string ByteArray.empty) 1 16 Tryz.underlying32 hi0 hz0 hz1 hz2 rfl (by decide) _ ws.length (ws.map Value.string) rfl (HOwn.out.alloc _) ⟨wr.heap.size, 0, none⟩ 1 1 [_] rfl rfl (cells_new _ _ _) (by simp [Value.oneCell']) (by omega) (by omega) (by simp; omega) ?_; intro v' w1 hown' hgrow hnil hloc; have HOW := hid_intro hown'; have HGR := hid_intro hgrow; clear hown' hgrow hloc hnil)
                      | fail)
                    have hk1 := push_keeps' HOwn.out HGR.out hk
                    refine ⟨⟨ws ++ [p], j, by go_num, by omega, ?_, by simp; omega, HNo.out, hk1⟩, by simp [intOf]; omega⟩
                    have := HOW.out
                    rw [HPx.out] at this
                    unfold Wds
                    rw [List.map_append, List.length_append]
                    exact this
                  · have q1 := lit_eq p [49] false (by simpa using z1)
                    have HOk : Hid (okW (c :: ((bl s).drop (i + 1)).takeWhile an) = false) := by show _ = _; rw [okW_is, ← HP.out, hl]; simp [z0, z1]
                    have HNo : Hid (wordsOf (bl s) = none) := by show _ = _; rw [HWs.out, HOk.out]; simp
                    go_wp2_with (first
                      | (go_at_call 76; refine (rdigit_any s[i]).mono ?_; rintro e w' ⟨rfl, rfl⟩; rw [HD0.out])
                      | fail)
                    go_ret2
                    exact ⟨hk, splitIs_no HNo.out⟩
        · skip
          have HL0 : Hid (letter s[i] = true) := by show _ = _; rw [← hc]; exact hl
          have HD0 : Hid (digit s[i] = false) := by show _ = _; rw [← hc]; exact excl c hl
          have han : an c = true := by unfold an; rw [hl]; rfl
          have hws := wordsOf_word han ((bl s).drop (i + 1))
          have HWs := hid_intro (HW.out.trans (by rw [hdr, hws]))
          obtain ⟨T, hT⟩ : ∃ T, T = (((bl s).drop (i + 1)).takeWhile an).length := ⟨_, rfl⟩
          have HT := hid_intro hT
          have hTle : i + 1 + T ≤ s.size := by have := tw_le ((bl s).drop (i + 1)); rw [List.length_drop, bl_len] at this; omega
          have hc0 := hid_intro hc
          clear hws hdr hT hc
          go_wp2_with (first
            | (go_at_call 75; refine (rletter_any s[i]).mono ?_; rintro e w' ⟨rfl, rfl⟩; rw [HL0.out])
            | (go_at_call 76; refine (rdigit_any s[i]).mono ?_; rintro e w' ⟨rfl, rfl⟩; rw [HD0.out])
            | fail)
          go_loopw [5] (fun x wq => ∃ j : Nat, x = .int .i64 j ∧ i + 1 ≤ j ∧ j ≤ i + 1 + T ∧ wq = wr) (fun x _ => s.size - (intOf x).toNat)
          case atStart => exact ⟨i + 1, by go_num, by omega, by omega, rfl⟩
          case round =>
            obtain ⟨j, rfl, hj1, hj2, hwq⟩ := hrel
            have hwq := hwq.symm
            subst hwq
            by_cases hjs : j < s.size
            · have hj0 : (0 : Int) ≤ (j : Int) := by omega
              have hj3 : (j : Int) < (s.size : Int) := by omega
              have hat := tw_at ((bl s).drop (i + 1)) (j - (i + 1)) (by rw [List.length_drop, bl_len]; omega) (by rw [← HT.out]; omega)
              rw [drop_get s hj1 hjs, ← HT.out] at hat
              have HA := hid_intro hat
              clear hat
              cases hc1 : letter s[j] <;> cases hd1 : digit s[j]
              all_goals
                have HC1 : Hid (letter s[j] = _) := hc1
                have HD1 : Hid (digit s[j] = _) := hd1
                clear hc1 hd1
              · have hTj : T = j - (i + 1) := HA.out.2 (by simp [an, HC1.out, HD1.out])
                go_upto_region 11 with (first
                  | (go_at_call 75; refine (rletter_any s[j]).mono ?_; rintro e w' ⟨rfl, rfl⟩; rw [HC1.out])
                  | (go_at_call 76; refine (rdigit_any s[j]).mono ?_; rintro e w' ⟨rfl, rfl⟩; rw [HD1.out])
                  | fail)
                have HPx := hid_intro (ext_word s hlt hc0.out hj1 hTj HT.out)
                have HDj := hid_intro (drop_word s hj1 hTj HT.out)
                obtain ⟨p, hp⟩ : ∃ p, p = mk (c :: ((bl s).drop (i + 1)).takeWhile an) := ⟨_, rfl⟩
                have HP := hid_intro hp
                rw [← hp] at HPx
                have hpz : p.size = j - i := by rw [← HPx.out]; exact ext_size s (by omega) (by omega)
                have HPz := hid_intro hpz
                clear hp hpz
                go_upto_region 12 with fail
                rw [HPx.out]
                by_cases z0 : p = mk [48]
                · have q0 := lit_eq p [48] true (by simpa using z0)
                  have Z0 := hid_intro z0
                  clear z0
                  have HOk : Hid (okW (c :: ((bl s).drop (i + 1)).takeWhile an) = true) := by show _ = _; rw [okW_is]; rw [← HP.out, Z0.out]; rfl
                  have HNo : Hid (wordsOf (bl s) = (wordsOf ((bl s).drop j)).map ((ws ++ [p]) ++ ·)) := by
                    show _ = _
                    rw [HWs.out, HOk.out, if_pos rfl, HDj.out, ← HP.out]
                    cases wordsOf ((bl s).drop j) <;> simp
                  go_wp2_with (first
                    | (go_at_call 76; refine (rdigit_any s[i]).mono ?_; rintro e w' ⟨rfl, rfl⟩; rw [HD0.out])
                    | (at_builtin; refine wpList_append_own_at _ rfl _ _ 32 rfl w.heap.size 9 i0 (.string ByteArray.empty) 1 16 Tryz.underlying32 hi0 hz0 hz1 hz2 rfl (by decide) _ ws.length (ws.map Value.string) rfl (HOwn.out.alloc _) ⟨wr.heap.size, 0, none⟩ 1 1 [_] rfl rfl (cells_new _ _ _) (by simp [Value.oneCell']) (by omega) (by omega) (by simp; omega) ?_; intro v' w1 hown' hgrow hnil hloc; have HOW := hid_intro hown'; have HGR := hid_intro hgrow; clear hown' hgrow hloc hnil)
                    | fail)
                  have hk1 := push_keeps' HOwn.out HGR.out hk
                  refine ⟨⟨ws ++ [p], j, by go_num, by omega, ?_, by simp; omega, HNo.out, hk1⟩, by simp [intOf]; omega⟩
                  have := HOW.out
                  rw [HPx.out] at this
                  unfold Wds
                  rw [List.map_append, List.length_append]
                  exact this
                · have q0 := lit_eq p [48] false (by simpa using z0)
                  by_cases z1 : p = mk [49]
                  · have q1 := lit_eq p [49] true (by simpa using z1)
                    have Z1 := hid_intro z1
                    clear z1
                    have HOk : Hid (okW (c :: ((bl s).drop (i + 1)).takeWhile an) = true) := by show _ = _; rw [okW_is]; rw [← HP.out, Z1.out]; rfl
                    have HNo : Hid (wordsOf (bl s) = (wordsOf ((bl s).drop j)).map ((ws ++ [p]) ++ ·)) := by
                      show _ = _
                      rw [HWs.out, HOk.out, if_pos rfl, HDj.out, ← HP.out]
                      cases wordsOf ((bl s).drop j) <;> simp
                    go_wp2_with (first
                      | (go_at_call 76; refine (rdigit_any s[i]).mono ?_; rintro e w' ⟨rfl, rfl⟩; rw [HD0.out])
                      | (at_builtin; refine wpList_append_own_at _ rfl _ _ 32 rfl w.heap.size 9 i0 (.string ByteArray.empty) 1 16 Tryz.underlying32 hi0 hz0 hz1 hz2 rfl (by decide) _ ws.length (ws.map Value.string) rfl (HOwn.out.alloc _) ⟨wr.heap.size, 0, none⟩ 1 1 [_] rfl rfl (cells_new _ _ _) (by simp [Value.oneCell']) (by omega) (by omega) (by simp; omega) ?_; intro v' w1 hown' hgrow hnil hloc; have HOW := hid_intro hown'; have HGR := hid_intro hgrow; clear hown' hgrow hloc hnil)
                      | fail)
                    have hk1 := push_keeps' HOwn.out HGR.out hk
                    refine ⟨⟨ws ++ [p], j, by go_num, by omega, ?_, by simp; omega, HNo.out, hk1⟩, by simp [intOf]; omega⟩
                    have := HOW.out
                    rw [HPx.out] at this
                    unfold Wds
                    rw [List.map_append, List.length_append]
                    exact this
                  · have q1 := lit_eq p [49] false (by simpa using z1)
                    obtain ⟨M, hM⟩ : ∃ M, ByteArray.size p = M := ⟨_, rfl⟩
                    have hMl : (c :: ((bl s).drop (i + 1)).takeWhile an).length = M := by rw [← hM, HP.out, mk_size]
                    by_cases z8 : M ≤ 8
                    · have z8i : ¬ (8 : Int) < (M : Int) := by omega
                      have HOk : Hid (okW (c :: ((bl s).drop (i + 1)).takeWhile an) = true) := by show _ = _; rw [okW_is]; rw [hMl, hl]; simp [z8]
                      have HNo : Hid (wordsOf (bl s) = (wordsOf ((bl s).drop j)).map ((ws ++ [p]) ++ ·)) := by
                        show _ = _
                        rw [HWs.out, HOk.out, if_pos rfl, HDj.out, ← HP.out]
                        cases wordsOf ((bl s).drop j) <;> simp
                      go_wp2_with (first
                        | (go_at_call 76; refine (rdigit_any s[i]).mono ?_; rintro e w' ⟨rfl, rfl⟩; rw [HD0.out])
                        | (at_builtin; refine wpList_append_own_at _ rfl _ _ 32 rfl w.heap.size 9 i0 (.string ByteArray.empty) 1 16 Tryz.underlying32 hi0 hz0 hz1 hz2 rfl (by decide) _ ws.length (ws.map Value.string) rfl (HOwn.out.alloc _) ⟨wr.heap.size, 0, none⟩ 1 1 [_] rfl rfl (cells_new _ _ _) (by simp [Value.oneCell']) (by omega) (by omega) (by simp; omega) ?_; intro v' w1 hown' hgrow hnil hloc; have HOW := hid_intro hown'; have HGR := hid_intro hgrow; clear hown' hgrow hloc hnil)
                        | fail)
                      have hk1 := push_keeps' HOwn.out HGR.out hk
                      refine ⟨⟨ws ++ [p], j, by go_num, by omega, ?_, by simp; omega, HNo.out, hk1⟩, by simp [intOf]; omega⟩
                      have := HOW.out
                      rw [HPx.out] at this
                      unfold Wds
                      rw [List.map_append, List.length_append]
                      exact this
                    · have z8i : (8 : Int) < (M : Int) := by omega
                      have HOk : Hid (okW (c :: ((bl s).drop (i + 1)).takeWhile an) = false) := by show _ = _; rw [okW_is]; rw [← HP.out, hMl]; simp [z0, z1, z8]
                      have HNo : Hid (wordsOf (bl s) = none) := by show _ = _; rw [HWs.out, HOk.out]; simp
                      go_wp2_with (first
                        | (go_at_call 76; refine (rdigit_any s[i]).mono ?_; rintro e w' ⟨rfl, rfl⟩; rw [HD0.out])
                        | fail)
                      go_ret2
                      exact ⟨hk, splitIs_no HNo.out⟩
              · go_wp2_with (first
                  | (go_at_call 75; refine (rletter_any s[j]).mono ?_; rintro e w' ⟨rfl, rfl⟩; rw [HC1.out])
                  | (go_at_call 76; refine (rdigit_any s[j]).mono ?_; rintro e w' ⟨rfl, rfl⟩; rw [HD1.out])
                  | fail)
                have hnx := HA.out.1 (by simp [an, HC1.out, HD1.out])
                exact ⟨⟨j + 1, by go_num, by omega, by omega, trivial⟩, by simp [intOf]; omega⟩
              · go_wp2_with (first
                  | (go_at_call 75; refine (rletter_any s[j]).mono ?_; rintro e w' ⟨rfl, rfl⟩; rw [HC1.out])
                  | (go_at_call 76; refine (rdigit_any s[j]).mono ?_; rintro e w' ⟨rfl, rfl⟩; rw [HD1.out])
                  | fail)
                have hnx := HA.out.1 (by simp [an, HC1.out, HD1.out])
                exact ⟨⟨j + 1, by go_num, by omega, by omega, trivial⟩, by simp [intOf]; omega⟩
              · go_wp2_with (first
                  | (go_at_call 75; refine (rletter_any s[j]).mono ?_; rintro e w' ⟨rfl, rfl⟩; rw [HC1.out])
                  | (go_at_call 76; refine (rdigit_any s[j]).mono ?_; rintro e w' ⟨rfl, rfl⟩; rw [HD1.out])
                  | fail)
                have hnx := HA.out.1 (by simp [an, HC1.out, HD1.out])
                exact ⟨⟨j + 1, by go_num, by omega, by omega, trivial⟩, by simp [intOf]; omega⟩
            · have hje : ¬ (j : Int) < (s.size : Int) := by omega
              have hTj : T = j - (i + 1) := by omega
              go_upto_region 11 with fail
              have HPx := hid_intro (ext_word s hlt hc0.out hj1 hTj HT.out)
              have HDj := hid_intro (drop_word s hj1 hTj HT.out)
              obtain ⟨p, hp⟩ : ∃ p, p = mk (c :: ((bl s).drop (i + 1)).takeWhile an) := ⟨_, rfl⟩
              have HP := hid_intro hp
              rw [← hp] at HPx
              have hpz : p.size = j - i := by rw [← HPx.out]; exact ext_size s (by omega) (by omega)
              have HPz := hid_intro hpz
              clear hp hpz
              go_upto_region 12 with fail
              rw [HPx.out]
              by_cases z0 : p = mk [48]
              · have q0 := lit_eq p [48] true (by simpa using z0)
                have Z0 := hid_intro z0
                clear z0
                have HOk : Hid (okW (c :: ((bl s).drop (i + 1)).takeWhile an) = true) := by show _ = _; rw [okW_is]; rw [← HP.out, Z0.out]; rfl
                have HNo : Hid (wordsOf (bl s) = (wordsOf ((bl s).drop j)).map ((ws ++ [p]) ++ ·)) := by
                  show _ = _
                  rw [HWs.out, HOk.out, if_pos rfl, HDj.out, ← HP.out]
                  cases wordsOf ((bl s).drop j) <;> simp
                go_wp2_with (first
                  | (go_at_call 76; refine (rdigit_any s[i]).mono ?_; rintro e w' ⟨rfl, rfl⟩; rw [HD0.out])
                  | (at_builtin; refine wpList_append_own_at _ rfl _ _ 32 rfl w.heap.size 9 i0 (.string ByteArray.empty) 1 16 Tryz.underlying32 hi0 hz0 hz1 hz2 rfl (by decide) _ ws.length (ws.map Value.string) rfl (HOwn.out.alloc _) ⟨wr.heap.size, 0, none⟩ 1 1 [_] rfl rfl (cells_new _ _ _) (by simp [Value.oneCell']) (by omega) (by omega) (by simp; omega) ?_; intro v' w1 hown' hgrow hnil hloc; have HOW := hid_intro hown'; have HGR := hid_intro hgrow; clear hown' hgrow hloc hnil)
                  | fail)
                have hk1 := push_keeps' HOwn.out HGR.out hk
                refine ⟨⟨ws ++ [p], j, by go_num, by omega, ?_, by simp; omega, HNo.out, hk1⟩, by simp [intOf]; omega⟩
                have := HOW.out
                rw [HPx.out] at this
                unfold Wds
                rw [List.map_append, List.length_append]
                exact this
              · have q0 := lit_eq p [48] false (by simpa using z0)
                by_cases z1 : p = mk [49]
                · have q1 := lit_eq p [49] true (by simpa using z1)
                  have Z1 := hid_intro z1
                  clear z1
                  have HOk : Hid (okW (c :: ((bl s).drop (i + 1)).takeWhile an) = true) := by show _ = _; rw [okW_is]; rw [← HP.out, Z1.out]; rfl
                  have HNo : Hid (wordsOf (bl s) = (wordsOf ((bl s).drop j)).map ((ws ++ [p]) ++ ·)) := by
                    show _ = _
                    rw [HWs.out, HOk.out, if_pos rfl, HDj.out, ← HP.out]
                    cases wordsOf ((bl s).drop j) <;> simp
                  go_wp2_with (first
                    | (go_at_call 76; refine (rdigit_any s[i]).mono ?_; rintro e w' ⟨rfl, rfl⟩; rw [HD0.out])
                    | (at_builtin; refine wpList_append_own_at _ rfl _ _ 32 rfl w.heap.size 9 i0 (.string ByteArray.empty) 1 16 Tryz.underlying32 hi0 hz0 hz1 hz2 rfl (by decide) _ ws.length (ws.map Value.string) rfl (HOwn.out.alloc _) ⟨wr.heap.size, 0, none⟩ 1 1 [_] rfl rfl (cells_new _ _ _) (by simp [Value.oneCell']) (by omega) (by omega) (by simp; omega) ?_; intro v' w1 hown' hgrow hnil hloc; have HOW := hid_intro hown'; have HGR := hid_intro hgrow; clear hown' hgrow hloc hnil)
                    | fail)
                  have hk1 := push_keeps' HOwn.out HGR.out hk
                  refine ⟨⟨ws ++ [p], j, by go_num, by omega, ?_, by simp; omega, HNo.out, hk1⟩, by simp [intOf]; omega⟩
                  have := HOW.out
                  rw [HPx.out] at this
                  unfold Wds
                  rw [List.map_append, List.length_append]
                  exact this
                · have q1 := lit_eq p [49] false (by simpa using z1)
                  obtain ⟨M, hM⟩ : ∃ M, ByteArray.size p = M := ⟨_, rfl⟩
                  have hMl : (c :: ((bl s).drop (i + 1)).takeWhile an).length = M := by rw [← hM, HP.out, mk_size]
                  by_cases z8 : M ≤ 8
                  · have z8i : ¬ (8 : Int) < (M : Int) := by omega
                    have HOk : Hid (okW (c :: ((bl s).drop (i + 1)).takeWhile an) = true) := by show _ = _; rw [okW_is]; rw [hMl, hl]; simp [z8]
                    have HNo : Hid (wordsOf (bl s) = (wordsOf ((bl s).drop j)).map ((ws ++ [p]) ++ ·)) := by
                      show _ = _
                      rw [HWs.out, HOk.out, if_pos rfl, HDj.out, ← HP.out]
                      cases wordsOf ((bl s).drop j) <;> simp
                    go_wp2_with (first
                      | (go_at_call 76; refine (rdigit_any s[i]).mono ?_; rintro e w' ⟨rfl, rfl⟩; rw [HD0.out])
                      | (at_builtin; refine wpList_append_own_at _ rfl _ _ 32 rfl w.heap.size 9 i0 (.string ByteArray.empty) 1 16 Tryz.underlying32 hi0 hz0 hz1 hz2 rfl (by decide) _ ws.length (ws.map Value.string) rfl (HOwn.out.alloc _) ⟨wr.heap.size, 0, none⟩ 1 1 [_] rfl rfl (cells_new _ _ _) (by simp [Value.oneCell']) (by omega) (by omega) (by simp; omega) ?_; intro v' w1 hown' hgrow hnil hloc; have HOW := hid_intro hown'; have HGR := hid_intro hgrow; clear hown' hgrow hloc hnil)
                      | fail)
                    have hk1 := push_keeps' HOwn.out HGR.out hk
                    refine ⟨⟨ws ++ [p], j, by go_num, by omega, ?_, by simp; omega, HNo.out, hk1⟩, by simp [intOf]; omega⟩
                    have := HOW.out
                    rw [HPx.out] at this
                    unfold Wds
                    rw [List.map_append, List.length_append]
                    exact this
                  · have z8i : (8 : Int) < (M : Int) := by omega
                    have HOk : Hid (okW (c :: ((bl s).drop (i + 1)).takeWhile an) = false) := by show _ = _; rw [okW_is]; rw [← HP.out, hMl]; simp [z0, z1, z8]
                    have HNo : Hid (wordsOf (bl s) = none) := by show _ = _; rw [HWs.out, HOk.out]; simp
                    go_wp2_with (first
                      | (go_at_call 76; refine (rdigit_any s[i]).mono ?_; rintro e w' ⟨rfl, rfl⟩; rw [HD0.out])
                      | fail)
                    go_ret2
                    exact ⟨hk, splitIs_no HNo.out⟩
    · obtain rfl : i = s.size := by omega
      have HN : Hid (wordsOf (bl s) = some ws) := by
        show _ = _
        rw [HW.out, List.drop_of_length_le (by rw [bl_len]; omega), wordsOf_nil]
        simp
      go_wp2_with fail
      go_ret2
      exact ⟨hk, splitIs_yes HN.out HOwn.out (by omega)⟩

end Go.Proofs.YtmgjegokkbghlaaGreatDoor

namespace Go.Proofs.YtmgjegokkbghlaaGreatDoor
open Go.RowKit Go.Maps Gram Circ
set_option linter.unusedVariables false

/-- how many words go on to the sign, at depth 0 -/
def stopAt (s : W) : Int → List W → Nat
  | _, [] => 0
  | o, x :: r => if x = opn then stopAt s (o + 1) r + 1 else if x = cls then stopAt s (o - 1) r + 1 else if x = s ∧ o = 0 then 0 else stopAt s o r + 1
theorem stopAt_le (s : W) : ∀ (l : List W) (o : Int), stopAt s o l ≤ l.length
  | [], _ => by simp [stopAt]
  | x :: r, o => by
    simp only [stopAt, List.length_cons]
    split
    · have := stopAt_le s r (o + 1); omega
    · split
      · have := stopAt_le s r (o - 1); omega
      · split
        · omega
        · have := stopAt_le s r o; omega
theorem cutW_stop (s : W) : ∀ (l : List W) (o : Int) (cur : List W), cutW s o cur l = (cur ++ l.take (stopAt s o l)) :: (if stopAt s o l < l.length then cutW s 0 [] (l.drop (stopAt s o l + 1)) else [])
  | [], o, cur => by simp [cutW, stopAt]
  | x :: r, o, cur => by
    simp only [cutW, stopAt]
    by_cases h1 : x = opn
    · simp only [h1, if_true]
      rw [cutW_stop s r (o + 1)]
      simp
    · simp only [h1, if_false]
      by_cases h2 : x = cls
      · simp only [h2, if_true]
        rw [cutW_stop s r (o - 1)]
        simp
      · simp only [h2, if_false]
        by_cases h3 : x = s ∧ o = 0
        · simp [h3]
        · simp only [h3, if_false]
          rw [cutW_stop s r o]
          simp
/-- the word at a place, in memory -/
theorem WS.word {w : World} {a : Option Addr} {n cap : Nat} {ws : List W} (h : WS w (.slice a n cap) ws) {j : Nat} (hj : j < ws.length) : ∃ b o, a = some ⟨b, o, none⟩ ∧ b < w.heap.size ∧ w.cell? ⟨b, o + j, none⟩ = some (.string ws[j]) := by
  obtain ⟨a', cap', e, _, _, h4⟩ := h
  obtain ⟨rfl, rfl, rfl⟩ : a = a' ∧ n = ws.length ∧ cap = cap' := by simpa using e
  obtain ⟨b, o, k1, _, k3, k4⟩ := h4 j hj
  exact ⟨b, o, k1, k3, k4⟩
theorem WS.shape {w : World} {v : Value} {ws : List W} (h : WS w v ws) : ∃ a cap, v = .slice a ws.length cap ∧ ws.length ≤ cap := by
  obtain ⟨a, cap, e, h1, _⟩ := h
  exact ⟨a, cap, e, h1⟩

set_option maxRecDepth 100000 in
set_option maxHeartbeats 2000000 in
theorem rend_any {w : World} {v : Value} {ws : List W} (hv : WS w v ws) {i : Nat} (hi : i ≤ ws.length) (hn : ws.length ≤ 2000) (s : W) :
    Calls Tryz.prog 138 #[v, .int .i64 (i : Int), .string s] w fun e w' => e = .returned (.int .i64 ((i + stopAt s 0 (ws.drop i) : Nat) : Int)) ∧ w = w' := by
  obtain ⟨a, cap, rfl, hcap⟩ := hv.shape
  have HW := hid_intro hv
  obtain ⟨n, hnl⟩ : ∃ n, n = ws.length := ⟨_, rfl⟩
  rw [← hnl] at hi hn hcap ⊢
  have HN := hid_intro hnl
  clear hv hnl
  go_enter Tryz.func138, Tryz.ntmps138
  go_wp2_with fail
  go_loopw [7, 8] (fun y7 y8 wq => ∃ (j : Nat) (o : Int), y8 = .int .i64 j ∧ y7 = .int .i64 o ∧ i ≤ j ∧ j ≤ n ∧ -(j : Int) ≤ o ∧ o ≤ (j : Int) ∧ i + stopAt s 0 (ws.drop i) = j + stopAt s o (ws.drop j) ∧ wq = w) (fun _ y8 _ => n - (intOf y8).toNat)
  case atStart => exact ⟨i, 0, rfl, rfl, Nat.le_refl _, hi, by omega, by omega, rfl, rfl⟩
  case round =>
    obtain ⟨j, o, rfl, rfl, hij, hj, ho1, ho2, hst, hwq⟩ := hrel
    have hwq := hwq.symm
    subst hwq
    by_cases hlt : j < n
    · have hj0 : (0 : Int) ≤ (j : Int) := by omega
      have hj1 : (j : Int) < (n : Int) := by omega
      have hjl : j < ws.length := by rw [← HN.out]; exact hlt
      obtain ⟨b, of, rfl, hb, hc⟩ := HW.out.word hjl
      rw [List.drop_eq_getElem_cons hjl] at hst
      obtain ⟨x, hx⟩ : ∃ x, x = ws[j] := ⟨_, rfl⟩
      rw [← hx] at hc hst
      simp only [stopAt] at hst
      clear hx
      by_cases x1 : x = opn
      · have q1 := lit_eq x [40] true (decide_eq_true (show x = mk [40] from x1))
        rw [if_pos x1] at hst
        have HST := hid_intro hst
        clear hst x1
        go_wp2_with fail
        exact ⟨⟨j + 1, o + 1, by go_num, by go_num, by omega, by omega, by omega, by omega, by have := HST.out; omega, trivial⟩, by simp [intOf]; omega⟩
      · have q1 := lit_eq x [40] false (decide_eq_false (show ¬ x = mk [40] from x1))
        rw [if_neg x1] at hst
        by_cases x2 : x = cls
        · have q2 := lit_eq x [41] true (decide_eq_true (show x = mk [41] from x2))
          rw [if_pos x2] at hst
          have HST := hid_intro hst
          clear hst x1 x2
          go_wp2_with fail
          exact ⟨⟨j + 1, o - 1, by go_num, by go_num, by omega, by omega, by omega, by omega, by have := HST.out; omega, trivial⟩, by simp [intOf]; omega⟩
        · have q2 := lit_eq x [41] false (decide_eq_false (show ¬ x = mk [41] from x2))
          rw [if_neg x2] at hst
          have qs := beq_bl x s
          by_cases x3 : x = s
          · rw [decide_eq_true x3] at qs
            by_cases x4 : o = 0
            · rw [if_pos ⟨x3, x4⟩] at hst
              have q4 : (o == 0) = true := by simpa using x4
              have HST := hid_intro hst
              have HX4 := hid_intro x4
              clear hst x1 x2 x3 x4
              go_wp2_with fail
              go_ret
              exact ⟨congrArg (fun z : Int => Ending.returned (.int .i64 z)) (show (j : Int) = (i : Int) + (stopAt s 0 (ws.drop i) : Int) by have := HST.out; omega), rfl⟩
            · rw [if_neg (fun h => x4 h.2)] at hst
              have q4 : (o == 0) = false := by simpa using x4
              have HST := hid_intro hst
              clear hst x1 x2 x3
              go_wp2_with fail
              exact ⟨⟨j + 1, o, by go_num, rfl, by omega, by omega, by omega, by omega, by have := HST.out; omega, trivial⟩, by simp [intOf]; omega⟩
          · rw [decide_eq_false x3] at qs
            rw [if_neg (fun h => x3 h.1)] at hst
            have HST := hid_intro hst
            clear hst x1 x2 x3
            go_wp2_with fail
            exact ⟨⟨j + 1, o, by go_num, rfl, by omega, by omega, by omega, by omega, by have := HST.out; omega, trivial⟩, by simp [intOf]; omega⟩
    · have hjn : ¬ (j : Int) < (n : Int) := by omega
      have hfin : i + stopAt s 0 (ws.drop i) = n := by
        rw [hst, List.drop_of_length_le (by rw [← HN.out]; omega)]
        simp [stopAt]
        omega
      have HST := hid_intro hfin
      clear hst hfin
      go_wp2_with fail
      go_ret
      exact ⟨congrArg (fun z : Int => Ending.returned (.int .i64 z)) (show (n : Int) = (i : Int) + (stopAt s 0 (ws.drop i) : Int) by have := HST.out; omega), rfl⟩

set_option maxRecDepth 100000 in
set_option maxHeartbeats 2000000 in
theorem rclosed_any {w : World} {v : Value} {ws : List W} (hv : WS w v ws) (hn : ws.length ≤ 2000) :
    Calls Tryz.prog 78 #[v] w fun e w' => e = .returned (.bool (closedW 0 ws)) ∧ w = w' := by
  obtain ⟨a, cap, rfl, hcap⟩ := hv.shape
  have HW := hid_intro hv
  obtain ⟨n, hnl⟩ : ∃ n, n = ws.length := ⟨_, rfl⟩
  rw [← hnl] at hn hcap ⊢
  have HN := hid_intro hnl
  clear hv hnl
  go_enter Tryz.func78, Tryz.ntmps78
  go_wp2_with fail
  go_loopw [3, 4] (fun y3 y4 wq => ∃ (j : Nat) (o : Int), y4 = .int .i64 j ∧ y3 = .int .i64 o ∧ j ≤ n ∧ -(j : Int) ≤ o ∧ o ≤ (j : Int) ∧ closedW 0 ws = closedW o (ws.drop j) ∧ wq = w) (fun _ y4 _ => n - (intOf y4).toNat)
  case atStart => exact ⟨0, 0, rfl, rfl, by omega, by omega, by omega, by rw [List.drop_zero], rfl⟩
  case round =>
    obtain ⟨j, o, rfl, rfl, hj, ho1, ho2, hst, hwq⟩ := hrel
    have hwq := hwq.symm
    subst hwq
    by_cases hlt : j < n
    · have hj0 : (0 : Int) ≤ (j : Int) := by omega
      have hj1 : (j : Int) < (n : Int) := by omega
      have hjl : j < ws.length := by rw [← HN.out]; exact hlt
      obtain ⟨b, of, rfl, hb, hc⟩ := HW.out.word hjl
      rw [List.drop_eq_getElem_cons hjl] at hst
      obtain ⟨x, hx⟩ : ∃ x, x = ws[j] := ⟨_, rfl⟩
      rw [← hx] at hc hst
      simp only [closedW] at hst
      obtain ⟨d, hd⟩ : ∃ d, d = o + dl x := ⟨_, rfl⟩
      rw [← hd] at hst
      have hemp : (ws.drop (j + 1)).isEmpty = decide (j + 1 = n) := by
        rw [Bool.eq_iff_iff, List.isEmpty_iff, decide_eq_true_iff, List.drop_eq_nil_iff, ← HN.out]
        omega
      rw [hemp] at hst
      have HST := hid_intro hst
      clear hx hst hemp
      have hdl : (x = opn ∧ d = o + 1) ∨ (x = cls ∧ ¬ x = opn ∧ d = o - 1) ∨ (¬ x = opn ∧ ¬ x = cls ∧ d = o) := by
        unfold dl at hd
        by_cases x1 : x = opn
        · rw [if_pos x1] at hd; exact Or.inl ⟨x1, hd⟩
        · rw [if_neg x1] at hd
          by_cases x2 : x = cls
          · rw [if_pos x2] at hd; exact Or.inr (Or.inl ⟨x2, x1, by omega⟩)
          · rw [if_neg x2] at hd; exact Or.inr (Or.inr ⟨x1, x2, by omega⟩)
      clear hd
      rcases hdl with ⟨x1, hd⟩ | ⟨x2, x1, hd⟩ | ⟨x1, x2, hd⟩
      · have q1 := lit_eq x [40] true (decide_eq_true (show x = mk [40] from x1))
        have q2 := lit_eq x [41] false (by rw [decide_eq_false_iff_not, x1]; decide)
        clear x1
        by_cases hz : d = 0
        · have hz' : o + 1 = 0 := by omega
          have q4 : (o + 1 == 0) = true := by simpa using hz'
          have HFin : Hid (closedW 0 ws = decide (j + 1 = n)) := by show _ = _; rw [HST.out, if_pos hz]
          clear hz hz' hd
          by_cases hlast : j + 1 = n
          · have q5 : (j : Int) = (n : Int) - 1 := by omega
            have q6 : ((j : Int) == (n : Int) - 1) = true := by simpa using q5
            rw [decide_eq_true hlast] at HFin
            clear q5 hlast
            go_wp2_with fail
            go_ret
            exact ⟨ret_bool HFin.out.symm, rfl⟩
          · have q5 : ¬ (j : Int) = (n : Int) - 1 := by omega
            have q6 : ((j : Int) == (n : Int) - 1) = false := by simpa using q5
            rw [decide_eq_false hlast] at HFin
            clear q5 hlast
            go_wp2_with fail
            go_ret
            exact ⟨ret_bool HFin.out.symm, rfl⟩
        · have hz' : ¬ o + 1 = 0 := by omega
          have q4 : (o + 1 == 0) = false := by simpa using hz'
          have HNx : Hid (closedW 0 ws = closedW d (ws.drop (j + 1))) := by show _ = _; rw [HST.out, if_neg hz]
          clear hz hz'
          go_wp2_with fail
          exact ⟨⟨j + 1, d, by go_num, by rw [hd], by omega, by omega, by omega, HNx.out, trivial⟩, by simp [intOf]; omega⟩
      · have q1 := lit_eq x [40] false (decide_eq_false (show ¬ x = mk [40] from x1))
        have q2 := lit_eq x [41] true (decide_eq_true (show x = mk [41] from x2))
        clear x1 x2
        by_cases hz : d = 0
        · have hz' : o - 1 = 0 := by omega
          have q4 : (o - 1 == 0) = true := by simpa using hz'
          have HFin : Hid (closedW 0 ws = decide (j + 1 = n)) := by show _ = _; rw [HST.out, if_pos hz]
          clear hz hz' hd
          by_cases hlast : j + 1 = n
          · have q5 : (j : Int) = (n : Int) - 1 := by omega
            have q6 : ((j : Int) == (n : Int) - 1) = true := by simpa using q5
            rw [decide_eq_true hlast] at HFin
            clear q5 hlast
            go_wp2_with fail
            go_ret
            exact ⟨ret_bool HFin.out.symm, rfl⟩
          · have q5 : ¬ (j : Int) = (n : Int) - 1 := by omega
            have q6 : ((j : Int) == (n : Int) - 1) = false := by simpa using q5
            rw [decide_eq_false hlast] at HFin
            clear q5 hlast
            go_wp2_with fail
            go_ret
            exact ⟨ret_bool HFin.out.symm, rfl⟩
        · have hz' : ¬ o - 1 = 0 := by omega
          have q4 : (o - 1 == 0) = false := by simpa using hz'
          have HNx : Hid (closedW 0 ws = closedW d (ws.drop (j + 1))) := by show _ = _; rw [HST.out, if_neg hz]
          clear hz hz'
          go_wp2_with fail
          exact ⟨⟨j + 1, d, by go_num, by rw [hd], by omega, by omega, by omega, HNx.out, trivial⟩, by simp [intOf]; omega⟩
      · have q1 := lit_eq x [40] false (decide_eq_false (show ¬ x = mk [40] from x1))
        have q2 := lit_eq x [41] false (decide_eq_false (show ¬ x = mk [41] from x2))
        clear x1 x2
        by_cases hz : d = 0
        · have hz' : o = 0 := by omega
          have q4 : (o == 0) = true := by simpa using hz'
          have HFin : Hid (closedW 0 ws = decide (j + 1 = n)) := by show _ = _; rw [HST.out, if_pos hz]
          clear hz hz' hd
          by_cases hlast : j + 1 = n
          · have q5 : (j : Int) = (n : Int) - 1 := by omega
            have q6 : ((j : Int) == (n : Int) - 1) = true := by simpa using q5
            rw [decide_eq_true hlast] at HFin
            clear q5 hlast
            go_wp2_with fail
            go_ret
            exact ⟨ret_bool HFin.out.symm, rfl⟩
          · have q5 : ¬ (j : Int) = (n : Int) - 1 := by omega
            have q6 : ((j : Int) == (n : Int) - 1) = false := by simpa using q5
            rw [decide_eq_false hlast] at HFin
            clear q5 hlast
            go_wp2_with fail
            go_ret
            exact ⟨ret_bool HFin.out.symm, rfl⟩
        · have hz' : ¬ o = 0 := by omega
          have q4 : (o == 0) = false := by simpa using hz'
          have HNx : Hid (closedW 0 ws = closedW d (ws.drop (j + 1))) := by show _ = _; rw [HST.out, if_neg hz]
          clear hz hz'
          go_wp2_with fail
          exact ⟨⟨j + 1, d, by go_num, by rw [hd], by omega, by omega, by omega, HNx.out, trivial⟩, by simp [intOf]; omega⟩
    · have hjn : ¬ (j : Int) < (n : Int) := by omega
      have hfin : closedW 0 ws = false := by
        rw [hst, List.drop_of_length_le (by rw [← HN.out]; omega)]
        rfl
      have HST := hid_intro hfin
      clear hst hfin
      go_wp2_with fail
      go_ret
      exact ⟨ret_bool HST.out.symm, rfl⟩

theorem infoSs : (Tryz.prog.info? 32).map (fun i => (i.zero, i.size, i.bytes)) = some (some (.slice none 0 0), 1, 24) := by kernel_rfl
/-- lists of words, each a slice -/
def PW (w : World) : List Value → List (List W) → Prop
  | v :: vs, p :: ps => (∃ a n c, v = .slice a n c) ∧ WS w v p ∧ PW w vs ps
  | [], [] => True
  | _, _ => False
theorem PW.snoc {w : World} : ∀ {vs : List Value} {ps : List (List W)} {v : Value} {p : List W}, PW w vs ps → (∃ a n c, v = .slice a n c) → WS w v p → PW w (vs ++ [v]) (ps ++ [p])
  | [], [], _, _, _, h1, h2 => ⟨h1, h2, trivial⟩
  | u :: vs, q :: ps, _, _, h, h1, h2 => ⟨h.1, h.2.1, PW.snoc h.2.2 h1 h2⟩
  | [], _ :: _, _, _, h, _, _ => h.elim
  | _ :: _, [], _, _, h, _, _ => h.elim
theorem PW.len {w : World} : ∀ {vs : List Value} {ps : List (List W)}, PW w vs ps → vs.length = ps.length
  | [], [], _ => rfl
  | u :: vs, q :: ps, h => by simp [PW.len h.2.2]
  | [], _ :: _, h => h.elim
  | _ :: _, [], h => h.elim
theorem PW.one {w : World} : ∀ {vs : List Value} {ps : List (List W)}, PW w vs ps → ∀ v ∈ vs, ∃ a n c, v = .slice a n c
  | [], [], _, _, h => by simp at h
  | u :: vs, q :: ps, h, v, hv => by
    rcases List.mem_cons.1 hv with rfl | hv
    · exact h.1
    · exact PW.one h.2.2 v hv
  | [], _ :: _, h, _, _ => h.elim
  | _ :: _, [], h, _, _ => h.elim

/-- a part of a slice -/
def cutV (a : Option Addr) (n cap f g : Nat) : Value := if cap = f then .slice a (g - f) 0 else match a with
  | none => .slice none (g - f) (cap - f)
  | some x => .slice (some (x.add f)) (g - f) (cap - f)
theorem cut_ws {w : World} {a : Option Addr} {n cap f g t : Nat} {ws : List W} (h : WS w (.slice a n cap) ws) (hn : ws.length = n) (hg : g ≤ ws.length) (hfg : f ≤ g) (ht : t = g - f) : WS w (cutV a n cap f g) ((ws.drop f).take t) := by
  have hw := h
  obtain ⟨a', cap', e, h1, h2, h4⟩ := h
  obtain ⟨rfl, _, rfl⟩ : a = a' ∧ n = ws.length ∧ cap = cap' := by simpa using e
  have hl : ((ws.drop f).take t).length = g - f := by rw [List.length_take, List.length_drop]; omega
  unfold cutV
  by_cases hcf : cap = f
  · rw [if_pos hcf]
    have h0 : g - f = 0 := by omega
    refine ⟨a, 0, by rw [hl], by omega, by omega, fun j hj => by omega⟩
  · rw [if_neg hcf]
    have at_ : ∀ j (hj : j < ((ws.drop f).take t).length), ∃ b o, a = some ⟨b, o, none⟩ ∧ b < w.heap.size ∧ w.cell? ⟨b, o + f + j, none⟩ = some (.string ((ws.drop f).take t)[j]) := fun j hj => by
      obtain ⟨b, o, k1, k2, k3⟩ := hw.word (j := f + j) (by omega)
      refine ⟨b, o, k1, k2, ?_⟩
      rw [List.getElem_take, List.getElem_drop, Nat.add_assoc]
      exact k3
    cases a with
    | none =>
      have h0 : g - f = 0 := by
        rcases Nat.eq_zero_or_pos (g - f) with h | h
        · exact h
        · obtain ⟨b, o, k1, _⟩ := at_ 0 (by omega)
          cases k1
      exact ⟨none, cap - f, by rw [hl], by omega, by omega, fun j hj => by omega⟩
    | some x =>
      refine ⟨some (x.add f), cap - f, by rw [hl], by omega, by omega, fun j hj => ?_⟩
      obtain ⟨b, o, k1, k2, k3⟩ := at_ j hj
      obtain rfl : x = ⟨b, o, none⟩ := Option.some.inj k1
      exact ⟨b, o + f, by simp [Addr.add], by omega, k2, k3⟩

set_option maxRecDepth 100000 in
set_option maxHeartbeats 2000000 in
theorem rsplit_any {w : World} {v : Value} {ws : List W} (hv : WS w v ws) (hn : ws.length ≤ 2000) (s : W) :
    Calls Tryz.prog 77 #[v, .string s] w fun e w' => ∃ (u : Value) (vs : List Value), e = .returned u ∧ w'.ownsRow w.heap.size 32 1 u vs.length vs ∧ PW w vs (cutW s 0 [] ws) ∧ Keeps [] w w' := by
  obtain ⟨i0, hi0, hz0, hz1, hz2⟩ := info_parts infoSs
  have hml : 2000000 < maxLen := by decide
  obtain ⟨a, cap, rfl, hcap⟩ := hv.shape
  have HW := hid_intro hv
  obtain ⟨n, hnl⟩ : ∃ n, n = ws.length := ⟨_, rfl⟩
  rw [← hnl] at hn hcap ⊢
  have HN := hid_intro hnl
  clear hv hnl
  go_enter Tryz.func77, Tryz.ntmps77
  go_wp2_with fail
  go_loopw [5, 6] (fun y5 y6 wr => ∃ (f : Nat) (vs : List Value) (ps : List (List W)), y6 = .int .i64 f ∧ f ≤ n + 1 ∧ vs.length ≤ f ∧ wr.ownsRow w.heap.size 32 1 y5 vs.length vs ∧ PW w vs ps ∧ cutW s 0 [] ws = ps ++ (if f ≤ n then cutW s 0 [] (ws.drop f) else []) ∧ Keeps [] w wr) (fun _ y6 _ => n + 1 - (intOf y6).toNat)
  case atStart => exact ⟨0, [], [], rfl, by omega, by simp, World.ownsRow_nil _ _ _ _, trivial, by simp, Keeps.refl _ _⟩
  case round =>
    obtain ⟨f, vs, ps, rfl, hf, hvl, hown, hpw, hcut, hk⟩ := hrel
    have HOwn := hid_intro hown
    have HPW := hid_intro hpw
    have HCut := hid_intro hcut
    have hbase := hk.size
    clear hown hpw hcut
    by_cases hle : f ≤ n
    · have hf0 : (0 : Int) ≤ (f : Int) := by omega
      have hf1 : (f : Int) ≤ (n : Int) := by omega
      have hfl : f ≤ ws.length := by rw [← HN.out]; exact hle
      obtain ⟨t, ht⟩ : ∃ t, t = stopAt s 0 (ws.drop f) := ⟨_, rfl⟩
      have htl : f + t ≤ n := by
        have := stopAt_le s (ws.drop f) 0
        rw [List.length_drop, ← HN.out, ← ht] at this
        omega
      have HC1 := hid_intro (rend_any (HW.out.keeps hk) hfl (by rw [← HN.out]; exact hn) s)
      rw [← ht] at HC1
      have HT := hid_intro ht
      clear ht
      obtain ⟨g, hg⟩ : ∃ g, g = f + t := ⟨_, rfl⟩
      rw [← hg] at HC1 htl
      have HG := hid_intro hg
      have hfg : f ≤ g := by omega
      clear hg
      go_wp2_with fail
      rw [HN.out]
      refine Calls.mono HC1.out ?_
      rintro e w1 ⟨rfl, rfl⟩
      rw [← HN.out]
      clear HC1
      have hg0 : (0 : Int) ≤ (g : Int) := by omega
      have hg1 : (g : Int) ≤ (cap : Int) := by omega
      have hfg1 : (f : Int) ≤ (g : Int) := by omega
      have hnext : cutW s 0 [] ws = (ps ++ [(ws.drop f).take t]) ++ (if g + 1 ≤ n then cutW s 0 [] (ws.drop (g + 1)) else []) := by
        have hgg := HG.out
        rw [HCut.out, if_pos hle, cutW_stop, ← HT.out, List.length_drop, ← HN.out, List.drop_drop]
        have e1 : f + (t + 1) = g + 1 := by omega
        rw [e1]
        by_cases h : t < n - f
        · rw [if_pos h, if_pos (by omega)]; simp
        · rw [if_neg h, if_neg (by omega)]; simp
      have HNext := hid_intro hnext
      have hpart : ∀ u, u = cutV a n cap f g → WS w u ((ws.drop f).take t) := fun u hu => by
        rw [hu]
        have hw' : WS w (.slice a n cap) ws := by rw [HN.out]; exact HW.out
        exact cut_ws hw' HN.out.symm (by rw [← HN.out]; exact htl) hfg (by have := HG.out; omega)
      have HPart := hid_intro hpart
      clear hnext hpart
      unfold cutV at HPart
      by_cases hcf : cap = f
      · subst hcf
        rw [if_pos rfl] at HPart
        have hpart : WS w (.slice a (g - cap) 0) ((ws.drop cap).take t) := HPart.out _ rfl
        have HPt := hid_intro hpart
        clear hpart
        go_wp2_with (first
          | (at_builtin; refine wpList_append_own_at _ rfl _ _ 167 rfl w.heap.size 32 i0 (.slice none 0 0) 1 24 Tryz.underlying167 hi0 hz0 hz1 hz2 rfl (by decide) _ vs.length vs rfl (HOwn.out.alloc _) ⟨wr.heap.size, 0, none⟩ 1 1 [_] rfl rfl (cells_new _ _ _) (by simp [Value.oneCell']) (by omega) (by omega) (by simp; omega) ?_; intro v' w2 hown' hgrow hnil hloc; have HOW := hid_intro hown'; have HGR := hid_intro hgrow; clear hown' hgrow hloc hnil)
          | fail)
        have hk1 := push_keeps' HOwn.out HGR.out hk
        refine ⟨⟨g + 1, vs ++ [.slice a (g - cap) 0], ps ++ [(ws.drop cap).take t], by go_num, by omega, by simp; omega, by rw [List.length_append]; exact HOW.out, HPW.out.snoc ⟨_, _, _, rfl⟩ HPt.out, HNext.out, hk1⟩, by simp [intOf]; omega⟩
      · rw [if_neg hcf] at HPart
        cases a with
        | none =>
          have hpart : WS w (.slice none (g - f) (cap - f)) ((ws.drop f).take t) := HPart.out _ rfl
          have HPt := hid_intro hpart
          clear hpart
          go_wp2_with (first
            | (at_builtin; refine wpList_append_own_at _ rfl _ _ 167 rfl w.heap.size 32 i0 (.slice none 0 0) 1 24 Tryz.underlying167 hi0 hz0 hz1 hz2 rfl (by decide) _ vs.length vs rfl (HOwn.out.alloc _) ⟨wr.heap.size, 0, none⟩ 1 1 [_] rfl rfl (cells_new _ _ _) (by simp [Value.oneCell']) (by omega) (by omega) (by simp; omega) ?_; intro v' w2 hown' hgrow hnil hloc; have HOW := hid_intro hown'; have HGR := hid_intro hgrow; clear hown' hgrow hloc hnil)
            | fail)
          have hk1 := push_keeps' HOwn.out HGR.out hk
          refine ⟨⟨g + 1, vs ++ [.slice none (g - f) (cap - f)], ps ++ [(ws.drop f).take t], by go_num, by omega, by simp; omega, by rw [List.length_append]; exact HOW.out, HPW.out.snoc ⟨_, _, _, rfl⟩ HPt.out, HNext.out, hk1⟩, by simp [intOf]; omega⟩
        | some x =>
          have hpart : WS w (.slice (some (x.add f)) (g - f) (cap - f)) ((ws.drop f).take t) := HPart.out _ rfl
          have HPt := hid_intro hpart
          clear hpart
          go_wp2_with (first
            | (at_builtin; refine wpList_append_own_at _ rfl _ _ 167 rfl w.heap.size 32 i0 (.slice none 0 0) 1 24 Tryz.underlying167 hi0 hz0 hz1 hz2 rfl (by decide) _ vs.length vs rfl (HOwn.out.alloc _) ⟨wr.heap.size, 0, none⟩ 1 1 [_] rfl rfl (cells_new _ _ _) (by simp [Value.oneCell']) (by omega) (by omega) (by simp; omega) ?_; intro v' w2 hown' hgrow hnil hloc; have HOW := hid_intro hown'; have HGR := hid_intro hgrow; clear hown' hgrow hloc hnil)
            | fail)
          have hk1 := push_keeps' HOwn.out HGR.out hk
          refine ⟨⟨g + 1, vs ++ [.slice (some (x.add f)) (g - f) (cap - f)], ps ++ [(ws.drop f).take t], by go_num, by omega, by simp; omega, by rw [List.length_append]; exact HOW.out, HPW.out.snoc ⟨_, _, _, rfl⟩ HPt.out, HNext.out, hk1⟩, by simp [intOf]; omega⟩
    · have hnle : ¬ (f : Int) ≤ (n : Int) := by omega
      have hfin : cutW s 0 [] ws = ps := by rw [HCut.out, if_neg hle]; simp
      have HF := hid_intro hfin
      clear hfin
      go_wp2_with fail
      go_ret
      exact ⟨_, rfl, vs, HOwn.out, by rw [HF.out]; exact HPW.out, hk⟩

end Go.Proofs.YtmgjegokkbghlaaGreatDoor

namespace Go.Proofs.YtmgjegokkbghlaaGreatDoor
open Go.RowKit Go.Maps Gram Circ
set_option linter.unusedVariables false

/-- what Comes answers of words, at a level and a depth -/
def CmIs (v : W → Bool) (k : Nat) (deep : Int) (ws : List W) (x ok : Bool) : Prop := 0 ≤ deep → (ok = true ↔ ∃ e, G k deep.toNat ws e) ∧ ∀ e, G k deep.toNat ws e → x = e.ev v
def fold1 (k : Nat) : List Bool → Bool
  | [] => false
  | x :: r => r.foldl (op k) x
theorem fold1_snoc (k : Nat) {xs : List Bool} (h : xs ≠ []) (x : Bool) : fold1 k (xs ++ [x]) = op k (fold1 k xs) x := by
  cases xs with
  | nil => exact absurd rfl h
  | cons y r => simp [fold1]
theorem parts_ne {k d : Nat} {l : List W} {ps : List (List W)} {e : Ex} (h : Parts k d l ps e) : ps ≠ [] := by
  cases h with
  | one h => simp
  | snoc h h' => simp
theorem parts_val {v : W → Bool} {k d : Nat} {l : List W} {ps : List (List W)} {e : Ex} (h : Parts k d l ps e) : ∀ xs : List Bool, xs.length = ps.length → (∀ j (hj : j < ps.length) (hx : j < xs.length) f, G (k + 1) d ps[j] f → xs[j] = f.ev v) → e.ev v = fold1 k xs := by
  induction h with
  | one h1 =>
    intro xs hl hx
    match xs, hl with
    | [x], _ =>
      have := hx 0 (by simp) (by simp) _ h1
      simpa [fold1] using this.symm
  | snoc h1 h2 ih =>
    rename_i l' r ps' e' f'
    intro xs hl hx
    have hps : ps' ≠ [] := parts_ne h1
    rw [List.length_append] at hl
    simp only [List.length_cons, List.length_nil] at hl
    obtain ⟨ys, y, rfl⟩ : ∃ ys y, xs = ys ++ [y] := ⟨xs.dropLast, xs.getLast (by intro e0; rw [e0] at hl; simp at hl), (List.dropLast_concat_getLast _).symm⟩
    have hyl : ys.length = ps'.length := by simp at hl; omega
    have hyn : ys ≠ [] := by
      intro e0
      rw [e0] at hyl
      exact hps (List.length_eq_zero_iff.1 hyl.symm)
    rw [fold1_snoc k hyn]
    have h3 := ih ys hyl (fun j hj hjx f hf => by
      have := hx j (by simp; omega) (by simp; omega) f (by rw [List.getElem_append_left hj]; exact hf)
      rw [List.getElem_append_left hjx] at this
      exact this)
    have h4 := hx ps'.length (by simp) (by simp; omega) f' (by simpa using h2)
    have h5 : (ys ++ [y])[ps'.length]'(by simp; omega) = y := by
      rw [List.getElem_append_right (by omega)]
      simp [hyl]
    rw [h5] at h4
    show op k (e'.ev v) (f'.ev v) = _
    rw [h3, h4]
/-- several parts -/
theorem cm_parts {v : W → Bool} {k : Nat} (hk : k < 3) {deep : Int} {ws : List W} {xs oks : List Bool} (h1 : xs.length = (cutW (sg k) 0 [] ws).length) (h2 : oks.length = (cutW (sg k) 0 [] ws).length)
    (h : ∀ j (hj : j < (cutW (sg k) 0 [] ws).length) (hx : j < xs.length) (ho : j < oks.length), CmIs v (k + 1) deep (cutW (sg k) 0 [] ws)[j] xs[j] oks[j]) : CmIs v k deep ws (fold1 k xs) (oks.all id) := by
  intro hd
  constructor
  · rw [G_cut hk, List.all_eq_true]
    constructor
    · intro ha r hr
      obtain ⟨j, hj, rfl⟩ := List.getElem_of_mem hr
      exact ((h j hj (by omega) (by omega)) hd).1.1 (by have := ha oks[j] (List.getElem_mem _); simpa using this)
    · intro hr b hb
      obtain ⟨j, hj, rfl⟩ := List.getElem_of_mem hb
      have := ((h j (by omega) (by omega) hj) hd).1.2 (hr _ (List.getElem_mem _))
      simpa using this
  · intro e he
    obtain ⟨ps, hp⟩ := parts_of hk he
    have hc := hp.cut hk
    refine (parts_val hp xs (by rw [h1, hc]) (fun j hj hx f hf => ?_)).symm
    have hj' : j < (cutW (sg k) 0 [] ws).length := by rw [hc]; exact hj
    have := ((h j hj' hx (by omega)) hd).2 f (by
      have e0 : (cutW (sg k) 0 [] ws)[j] = ps[j] := by simp only [hc]
      rw [e0]; exact hf)
    exact this
/-- one part alone -/
theorem cm_up {v : W → Bool} {k : Nat} (hk : k < 3) {deep : Int} {ws : List W} {x ok : Bool} (h1 : (cutW (sg k) 0 [] ws).length ≤ 1) (h : CmIs v (k + 1) deep ws x ok) : CmIs v k deep ws x ok := by
  have hone : cutW (sg k) 0 [] ws = [ws] := by
    obtain ⟨p, ps, e1, e2⟩ := cutW_join (sg k) ws 0 []
    rw [e1] at h1
    have : ps = [] := by
      cases ps with
      | nil => rfl
      | cons y r => simp at h1
    subst this
    rw [e1]
    simp [joinT] at e2
    rw [e2]
  intro hd
  obtain ⟨h2, h3⟩ := h hd
  constructor
  · rw [h2, G_cut hk (l := ws), hone]
    simp
  · intro e he
    obtain ⟨ps, hp⟩ := parts_of hk he
    have hc := hp.cut hk
    rw [hone] at hc
    subst hc
    exact h3 e (parts_one_inv hp).2
theorem cm_nil (v : W → Bool) (deep : Int) (x : Bool) : CmIs v 3 deep [] x false := fun _ => ⟨⟨(fun h => by cases h), fun ⟨e, h⟩ => (G_nil h).elim⟩, fun e h => (G_nil h).elim⟩
theorem cm_bang {v : W → Bool} {deep : Int} {l : List W} {x ok : Bool} (h : CmIs v 3 (deep - 1) l x ok) : CmIs v 3 deep (bang :: l) (!x) (ok && decide (0 < deep)) := by
  intro hd
  by_cases h0 : 0 < deep
  · obtain ⟨d, rfl⟩ : ∃ d : Nat, deep = (d + 1 : Nat) := ⟨(deep - 1).toNat, by omega⟩
    have e1 : ((d + 1 : Nat) : Int) - 1 = (d : Int) := by omega
    rw [e1] at h
    obtain ⟨h1, h2⟩ := h (by omega)
    simp only [Int.toNat_natCast] at h1 h2 ⊢
    constructor
    · rw [Bool.and_eq_true, decide_eq_true_iff, h1]
      constructor
      · rintro ⟨⟨e, he⟩, _⟩
        exact ⟨.no e, G3_bang.2 ⟨d, e, rfl, rfl, he⟩⟩
      · rintro ⟨e, he⟩
        obtain ⟨d', f, e2, rfl, hf⟩ := G3_bang.1 he
        obtain rfl : d = d' := by omega
        exact ⟨⟨f, hf⟩, h0⟩
    · intro e he
      obtain ⟨d', f, e2, rfl, hf⟩ := G3_bang.1 he
      obtain rfl : d = d' := by omega
      rw [h2 f hf]
      rfl
  · have h00 : deep = 0 := by omega
    subst h00
    have hno : ¬ ∃ e, G 3 (0 : Int).toNat (bang :: l) e := by
      rintro ⟨e, he⟩
      obtain ⟨d', f, e2, _⟩ := G3_bang.1 he
      simp at e2
    exact ⟨⟨(fun hh => by simp at hh), fun hh => (hno hh).elim⟩, fun e he => (hno ⟨e, he⟩).elim⟩
theorem cm_opened {v : W → Bool} {deep : Int} {m : List W} {x ok : Bool} (h0 : 1 ≤ deep) (h : CmIs v 0 (deep - 1) m x ok) : CmIs v 3 deep (opn :: (m ++ [cls])) x ok := by
  intro hd
  obtain ⟨d, rfl⟩ : ∃ d : Nat, deep = (d + 1 : Nat) := ⟨(deep - 1).toNat, by omega⟩
  have e1 : ((d + 1 : Nat) : Int) - 1 = (d : Int) := by omega
  rw [e1] at h
  obtain ⟨h1, h2⟩ := h (by omega)
  simp only [Int.toNat_natCast] at h1 h2 ⊢
  have key : ∀ e, G 3 (d + 1) (opn :: (m ++ [cls])) e ↔ G 0 d m e := fun e => by
    rw [G3_open]
    constructor
    · rintro ⟨d', m', e2, e3, hg⟩
      obtain rfl : d = d' := by omega
      obtain rfl : m = m' := (List.append_inj' e3 rfl).1
      exact hg
    · intro hg; exact ⟨d, m, rfl, rfl, hg⟩
  constructor
  · rw [h1]
    exact ⟨fun ⟨e, he⟩ => ⟨e, (key e).2 he⟩, fun ⟨e, he⟩ => ⟨e, (key e).1 he⟩⟩
  · intro e he; exact h2 e ((key e).1 he)
theorem cm_shut {v : W → Bool} {deep : Int} {l : List W} {x : Bool} (h : closedW 0 (opn :: l) = false ∨ deep < 1) : CmIs v 3 deep (opn :: l) x false := by
  intro hd
  have hno : ¬ ∃ e, G 3 deep.toNat (opn :: l) e := by
    rintro ⟨e, he⟩
    obtain ⟨d', m, e2, rfl, hg⟩ := G3_open.1 he
    rcases h with h | h
    · rw [closedW_of hg] at h; cases h
    · omega
  exact ⟨⟨(fun hh => by cases hh), fun hh => (hno hh).elim⟩, fun e he => (hno ⟨e, he⟩).elim⟩
theorem cm_more {v : W → Bool} {deep : Int} {y z : W} {l : List W} {x : Bool} (h1 : y ≠ bang) (h2 : y ≠ opn) : CmIs v 3 deep (y :: z :: l) x false := by
  intro hd
  have hno : ¬ ∃ e, G 3 deep.toNat (y :: z :: l) e := by
    rintro ⟨e, he⟩
    have := (G3_else h1 h2).1 he
    cases this.1
  exact ⟨⟨(fun hh => by cases hh), fun hh => (hno hh).elim⟩, fun e he => (hno ⟨e, he⟩).elim⟩
theorem cm_lit {v : W → Bool} {deep : Int} {y : W} (h : y = zer ∨ y = one) : CmIs v 3 deep [y] (decide (y = one)) true := by
  intro hd
  have h1 : y ≠ bang := by rcases h with rfl | rfl <;> decide
  have h2 : y ≠ opn := by rcases h with rfl | rfl <;> decide
  have hn : isName y = false := by rcases h with rfl | rfl <;> decide
  constructor
  · refine ⟨fun _ => ?_, fun _ => rfl⟩
    rcases h with rfl | rfl
    · exact ⟨.lit false, (G3_else h1 h2).2 ⟨rfl, Or.inl ⟨rfl, rfl⟩⟩⟩
    · exact ⟨.lit true, (G3_else h1 h2).2 ⟨rfl, Or.inr (Or.inl ⟨rfl, rfl⟩)⟩⟩
  · intro e he
    rcases ((G3_else h1 h2).1 he).2 with ⟨rfl, rfl⟩ | ⟨rfl, rfl⟩ | ⟨hh, _⟩
    · rfl
    · rfl
    · rw [hn] at hh; cases hh
theorem cm_word {v : W → Bool} {deep : Int} {y : W} {x ok : Bool} (h1 : y ≠ bang) (h2 : y ≠ opn) (h3 : y ≠ zer) (h4 : y ≠ one) (hok : ok = isName y) (hx : isName y = true → x = v y) : CmIs v 3 deep [y] x ok := by
  intro hd
  constructor
  · rw [hok]
    constructor
    · intro hn; exact ⟨.nm y, (G3_else h1 h2).2 ⟨rfl, Or.inr (Or.inr ⟨hn, rfl⟩)⟩⟩
    · rintro ⟨e, he⟩
      rcases ((G3_else h1 h2).1 he).2 with ⟨e1, _⟩ | ⟨e1, _⟩ | ⟨hh, _⟩
      · exact absurd e1 h3
      · exact absurd e1 h4
      · exact hh
  · intro e he
    rcases ((G3_else h1 h2).1 he).2 with ⟨e1, _⟩ | ⟨e1, _⟩ | ⟨hh, rfl⟩
    · exact absurd e1 h3
    · exact absurd e1 h4
    · exact hx hh

end Go.Proofs.YtmgjegokkbghlaaGreatDoor

namespace Go.Proofs.YtmgjegokkbghlaaGreatDoor
open Go.RowKit Go.Maps Gram Circ
set_option linter.unusedVariables false

set_option maxRecDepth 100000 in
set_option maxHeartbeats 1000000 in
theorem rin_any {w : World} {v : Value} {ws : List W} (hv : WS w v ws) (hn : ws.length ≤ 2000) (s : W) :
    Calls Tryz.prog 49 #[v, .string s] w fun e w' => e = .returned (.bool (Circ.has ws s)) ∧ w = w' := by
  obtain ⟨a, cap, rfl, hcap⟩ := hv.shape
  have HW := hid_intro hv
  obtain ⟨n, hnl⟩ : ∃ n, n = ws.length := ⟨_, rfl⟩
  rw [← hnl] at hn hcap ⊢
  have HN := hid_intro hnl
  clear hv hnl
  go_enter Tryz.func49, Tryz.ntmps49
  go_wp2_with fail
  go_loopw [5] (fun y wq => ∃ j : Nat, y = .int .i64 j ∧ j ≤ n ∧ Circ.has ws s = Circ.has (ws.drop j) s ∧ wq = w) (fun y _ => n - (intOf y).toNat)
  case atStart => exact ⟨0, rfl, by omega, by rw [List.drop_zero], rfl⟩
  case round =>
    obtain ⟨j, rfl, hj, hst, hwq⟩ := hrel
    have hwq := hwq.symm
    subst hwq
    by_cases hlt : j < n
    · have hj0 : (0 : Int) ≤ (j : Int) := by omega
      have hj1 : (j : Int) < (n : Int) := by omega
      have hjl : j < ws.length := by rw [← HN.out]; exact hlt
      obtain ⟨b, of, rfl, hb, hc⟩ := HW.out.word hjl
      rw [List.drop_eq_getElem_cons hjl] at hst
      obtain ⟨x, hx⟩ : ∃ x, x = ws[j] := ⟨_, rfl⟩
      rw [← hx] at hc hst
      have hcons : Circ.has (x :: ws.drop (j + 1)) s = (decide (x = s) || Circ.has (ws.drop (j + 1)) s) := by simp [Circ.has]
      rw [hcons] at hst
      have qs := beq_bl x s
      clear hx hcons
      by_cases x3 : x = s
      · rw [decide_eq_true x3] at qs hst
        have HST := hid_intro hst
        clear hst x3
        go_wp2_with fail
        go_ret
        exact ⟨ret_bool (by rw [HST.out]; rfl), rfl⟩
      · rw [decide_eq_false x3] at qs hst
        have HST := hid_intro hst
        clear hst x3
        go_wp2_with fail
        exact ⟨⟨j + 1, by go_num, by omega, by rw [HST.out]; rfl, trivial⟩, by simp [intOf]; omega⟩
    · have hjn : ¬ (j : Int) < (n : Int) := by omega
      have hfin : Circ.has ws s = false := by
        rw [hst, List.drop_of_length_le (by rw [← HN.out]; omega)]
        rfl
      have HST := hid_intro hfin
      clear hst hfin
      go_wp2_with fail
      go_ret
      exact ⟨ret_bool HST.out.symm, rfl⟩

/-- truth values in memory -/
def BS (w : World) (v : Value) (bs : List Bool) : Prop := ∃ a cap, v = .slice a bs.length cap ∧ ∀ j (hj : j < bs.length), ∃ b o, a = some ⟨b, o, none⟩ ∧ b < w.heap.size ∧ w.cell? ⟨b, o + j, none⟩ = some (.bool bs[j])
theorem BS.keeps {w w' : World} {v : Value} {bs : List Bool} (h : BS w v bs) (hk : Keeps [] w w') : BS w' v bs := by
  obtain ⟨a, cap, h1, h4⟩ := h
  refine ⟨a, cap, h1, fun j hj => ?_⟩
  obtain ⟨b, o, k1, k2, k3⟩ := h4 j hj
  exact ⟨b, o, k1, Nat.lt_of_lt_of_le k2 hk.size, hk.cell k3 (by simp)⟩
theorem BS.ofRow {w : World} {base : Nat} {v : Value} {bs : List Bool} (h : w.ownsRow base 4 1 v bs.length (bs.map Value.bool)) : BS w v bs := by
  have hh := h
  rcases h.2 with ⟨h0, h1⟩ | ⟨g, cap, cur, hv, hb, hgg, hle, hmx, rest⟩
  · exact ⟨none, 0, by rw [h0, h1], fun j hj => by omega⟩
  · refine ⟨some ⟨g, 0, none⟩, cap, hv, fun j hj => ⟨g, 0, rfl, (Array.getElem?_eq_some_iff.1 hgg).1, ?_⟩⟩
    subst hv
    rw [Nat.zero_add, hh.cellAt j (by omega)]
    simp [hj]

set_option maxRecDepth 100000 in
set_option maxHeartbeats 1000000 in
theorem rnumber_any {w : World} {v : Value} {bs : List Bool} (hv : BS w v bs) (hn : bs.length ≤ 4) :
    Calls Tryz.prog 51 #[v] w fun e w' => e = .returned (.int .i64 (numOf bs : Int)) ∧ w = w' := by
  obtain ⟨a, cap, rfl, hcell⟩ := hv
  have HW := hid_intro hcell
  obtain ⟨n, hnl⟩ : ∃ n, n = bs.length := ⟨_, rfl⟩
  rw [← hnl] at hn ⊢
  have HN := hid_intro hnl
  have hlt16 : ∀ j, numOf (bs.take j) < 16 := fun j => by
    have h1 := numOf_lt (bs.take j)
    have h2 : 2 ^ (bs.take j).length ≤ 2 ^ 4 := Nat.pow_le_pow_right (by omega) (by rw [List.length_take]; omega)
    omega
  have H16 := hid_intro hlt16
  clear hcell hnl hlt16
  go_enter Tryz.func51, Tryz.ntmps51
  go_wp2_with fail
  go_loopw [3, 4] (fun y3 y4 wq => ∃ (j q : Nat), y4 = .int .i64 j ∧ y3 = .int .i64 q ∧ j ≤ n ∧ q = numOf (bs.take j) ∧ wq = w) (fun _ y4 _ => n - (intOf y4).toNat)
  case atStart => exact ⟨0, 0, rfl, rfl, by omega, by simp [numOf], rfl⟩
  case round =>
    obtain ⟨j, q, rfl, rfl, hj, hq, hwq⟩ := hrel
    have hwq := hwq.symm
    subst hwq
    have HQ := hid_intro hq
    have hq16 : q < 16 := by rw [hq]; exact H16.out j
    clear hq
    by_cases hlt : j < n
    · have hj0 : (0 : Int) ≤ (j : Int) := by omega
      have hj1 : (j : Int) < (n : Int) := by omega
      have hjl : j < bs.length := by rw [← HN.out]; exact hlt
      obtain ⟨b, of, rfl, hb, hc⟩ := HW.out j hjl
      have hs : numOf (bs.take (j + 1)) = 2 * q + (if bs[j] then 1 else 0) := by
        rw [List.take_succ_eq_append_getElem hjl, HQ.out]
        unfold numOf
        rw [List.foldl_append]
        rfl
      have HS := hid_intro hs
      cases hb2 : bs[j]
      all_goals
        rw [hb2] at hc
        have HB := hid_intro hb2
        clear hb2 hs
        go_wp2_with fail
        refine ⟨⟨j + 1, _, by go_num, by go_num, by omega, ?_, trivial⟩, by simp [intOf]; omega⟩
        rw [HS.out, HB.out]
        rfl
    · have hjn : ¬ (j : Int) < (n : Int) := by omega
      have hfin : q = numOf bs := by rw [HQ.out, List.take_of_length_le (by rw [← HN.out]; omega)]
      have HF := hid_intro hfin
      clear hfin
      go_wp2_with fail
      go_ret
      exact ⟨congrArg (fun z : Nat => Ending.returned (.int .i64 (z : Int))) HF.out, rfl⟩

set_option maxRecDepth 100000 in
set_option maxHeartbeats 1000000 in
theorem rvalues_any {w : World} {x n : Nat} (hx : x < 16) (hn : n ≤ 4) :
    Calls Tryz.prog 50 #[.int .i64 (x : Int), .int .i64 (n : Int)] w fun e w' => ∃ u, e = .returned u ∧ w'.ownsRow w.heap.size 4 1 u n ((digs n x).map Value.bool) ∧ Keeps [] w w' := by
  obtain ⟨i0, hi0, hz0, hz1, hz2⟩ := info_parts infoB
  have hml : 2000000 < maxLen := by decide
  have hdl : (digs n x).length = n := by simp [digs]
  go_enter Tryz.func50, Tryz.ntmps50
  go_wp2_with fail
  go_loopw [5, 6] (fun y5 y6 wr => ∃ (j m : Nat), j + m = n ∧ y6 = .int .i64 ((m : Int) - 1) ∧ wr.ownsRow w.heap.size 4 1 y5 j (((digs n x).take j).map Value.bool) ∧ Keeps [] w wr) (fun _ y6 _ => (intOf y6 + 1).toNat)
  case atStart => exact ⟨0, n, by omega, rfl, World.ownsRow_nil _ _ _ _, Keeps.refl _ _⟩
  case round =>
    obtain ⟨j, m, hjm, rfl, hown, hk⟩ := hrel
    have HOwn := hid_intro hown
    have hbase := hk.size
    clear hown
    by_cases hm : m = 0
    · subst hm
      have hneg : ¬ (0 : Int) ≤ ((0 : Nat) : Int) - 1 := by omega
      obtain rfl : j = n := by omega
      go_wp2_with fail
      go_ret
      refine ⟨_, rfl, ?_, hk⟩
      have := HOwn.out
      rw [List.take_of_length_le (by omega)] at this
      exact this
    · obtain ⟨m, rfl⟩ : ∃ m', m = m' + 1 := ⟨m - 1, by omega⟩
      have hme : ((m + 1 : Nat) : Int) - 1 = (m : Int) := by omega
      rw [hme]
      have hm0 : (0 : Int) ≤ (m : Int) := by omega
      have hbd := bits_dig x hx n (by omega) j (by omega)
      rw [show n - 1 - j = m by omega] at hbd
      have HBd := hid_intro hbd
      clear hbd
      go_wp2_with (first
        | (at_builtin; refine wpList_append_own_at _ rfl _ _ 22 rfl w.heap.size 4 i0 (.bool false) 1 1 Tryz.underlying22 hi0 hz0 hz1 hz2 rfl (by decide) _ j (((digs n x).take j).map Value.bool) rfl (HOwn.out.alloc _) ⟨wr.heap.size, 0, none⟩ 1 1 [_] rfl rfl (cells_new _ _ _) (by simp [Value.oneCell']) (by omega) (by omega) (by simp; omega) ?_; intro v' w1 hown' hgrow hnil hloc; have HOW := hid_intro hown'; have HGR := hid_intro hgrow; clear hown' hgrow hloc hnil)
        | fail)
      have hk1 := push_keeps' HOwn.out HGR.out hk
      refine ⟨⟨j + 1, m, by omega, by go_num, ?_, hk1⟩, by simp [intOf]⟩
      have := HOW.out
      rw [HBd.out] at this
      rw [List.take_succ_eq_append_getElem (by omega), List.map_append]
      have e : (digs n x)[j]'(by omega) = dig n x j := by simp [digs]
      rw [e]
      exact this

end Go.Proofs.YtmgjegokkbghlaaGreatDoor

namespace Go.Proofs.YtmgjegokkbghlaaGreatDoor
open Go.RowKit Go.Maps Gram Circ
set_option linter.unusedVariables false

def ComesC (ns : List W) (bs : List Bool) (ws : List W) (k : Nat) (deep : Int) (w : World) (e : Ending) (w' : World) : Prop := ∃ x ok : Bool, e = .returned (.tuple #[.bool x, .bool ok]) ∧ CmIs (Circ.look ns bs) k deep ws x ok ∧ Keeps [] w w'
/-- the words of a list of parts, in memory -/
theorem PW.at_ {w : World} : ∀ {vs : List Value} {ps : List (List W)}, PW w vs ps → ∀ {j : Nat} (hj : j < vs.length) (hp : j < ps.length), (∃ a n c, vs[j] = .slice a n c) ∧ WS w vs[j] ps[j]
  | [], [], _, _, hj, _ => by simp at hj
  | u :: vs, q :: ps, h, 0, _, _ => ⟨h.1, h.2.1⟩
  | u :: vs, q :: ps, h, j + 1, hj, hp => PW.at_ h.2.2 (by simpa using hj) (by simpa using hp)
  | [], _ :: _, h, _, _, _ => h.elim
  | _ :: _, [], h, _, _, _ => h.elim
theorem cut_short (s : W) (l : List W) (h : 1 < (cutW s 0 [] l).length) : ∀ p ∈ cutW s 0 [] l, p.length < l.length := by
  have key : ∀ (n : Nat) (l : List W), l.length ≤ n → ∀ p ∈ cutW s 0 [] l, p.length ≤ l.length ∧ (1 < (cutW s 0 [] l).length → p.length < l.length) := by
    intro n
    induction n with
    | zero =>
      intro l hl p hp
      have : l = [] := List.length_eq_zero_iff.1 (by omega)
      subst this
      simp [cutW] at hp
      subst hp
      simp [cutW]
    | succ n ih =>
      intro l hl p hp
      rw [cutW_stop] at hp
      have hs := stopAt_le s l 0
      rcases List.mem_cons.1 hp with rfl | hp
      · rw [List.nil_append, List.length_take]
        refine ⟨by omega, fun h1 => ?_⟩
        rw [cutW_stop, List.length_cons] at h1
        split at h1
        · omega
        · simp at h1
      · split at hp
        · rename_i hlt
          have := (ih (l.drop (stopAt s 0 l + 1)) (by rw [List.length_drop]; omega) p hp).1
          rw [List.length_drop] at this
          exact ⟨by omega, fun _ => by omega⟩
        · simp at hp
  intro p hp
  exact (key l.length l (Nat.le_refl _) p hp).2 h
theorem cut_count (s : W) (l : List W) : (cutW s 0 [] l).length ≤ l.length + 1 := by
  have key : ∀ (n : Nat) (l : List W), l.length ≤ n → (cutW s 0 [] l).length ≤ l.length + 1 := by
    intro n
    induction n with
    | zero =>
      intro l hl
      have : l = [] := List.length_eq_zero_iff.1 (by omega)
      subst this
      simp [cutW]
    | succ n ih =>
      intro l hl
      rw [cutW_stop, List.length_cons]
      have hs := stopAt_le s l 0
      split
      · have := ih (l.drop (stopAt s 0 l + 1)) (by rw [List.length_drop]; omega)
        rw [List.length_drop] at this
        omega
      · simp
  exact key l.length l (Nat.le_refl _)
theorem sg_cut : ∀ k, k < 3 → (⟨#[124, 94, 38]⟩ : ByteArray).extract k (k + 1) = sg k := by decide

set_option maxRecDepth 100000 in
set_option maxHeartbeats 4000000 in
theorem comes_any : ∀ (m : Nat) (w : World) (v : Value) (ws : List W) (k : Nat) (deep : Int) (nv bv : Value) (ns : List W) (bs : List Bool), 4 * ws.length + (3 - k) = m → WS w v ws → ws.length ≤ 2000 → k ≤ 3 → -(5000 : Int) + ws.length ≤ deep → deep ≤ 100 → WS w nv ns → ns.length ≤ 2000 → BS w bv bs → bs.length = ns.length → (∀ n ∈ ns, isName n = true) →
    Calls Tryz.prog 47 #[v, .int .i64 (k : Int), .int .i64 deep, nv, bv] w fun e w' => ComesC ns bs ws k deep w e w' := by
  intro m
  refine Nat.strongRecOn m (fun m ih => ?_)
  intro w v ws k deep nv bv ns bs hm hv hwl hk3 hd1 hd2 hnv hnl hbv hbl hnm
  have HIH : Hid (∀ {w : World} {v : Value} {ws' : List W} {k' : Nat} {deep' : Int}, 4 * ws'.length + (3 - k') < 4 * ws.length + (3 - k) → WS w v ws' → ws'.length ≤ 2000 → k' ≤ 3 → -(5000 : Int) + ws'.length ≤ deep' → deep' ≤ 100 → WS w nv ns → BS w bv bs → Calls Tryz.prog 47 #[v, .int .i64 (k' : Int), .int .i64 deep', nv, bv] w fun e w' => ComesC ns bs ws' k' deep' w e w') :=
    fun {w v ws' k' deep'} hlt h1 h2 h3 h4 h5 h6 h7 => ih _ (by omega) _ _ _ _ _ _ _ _ _ rfl h1 h2 h3 h4 h5 h6 hnl h7 hbl hnm
  clear ih
  obtain ⟨a, cap, rfl, hcap⟩ := hv.shape
  have HW := hid_intro hv
  have HNV := hid_intro hnv
  have HBV := hid_intro hbv
  have HNm := hid_intro hnm
  have HBl := hid_intro hbl
  obtain ⟨n, hn⟩ : ∃ n, n = ws.length := ⟨_, rfl⟩
  have HN := hid_intro hn
  rw [← hn] at hwl hcap hd1 ⊢
  clear hv hnv hbv hnm hbl hn hm
  by_cases hk : k < 3
  · have hk0 : (0 : Int) ≤ (k : Int) := by omega
    have hki : (k : Int) < 3 := by omega
    have HC1 : Hid (Calls Tryz.prog 77 #[.slice a n cap, .string (sg k)] w fun e w' => ∃ (u : Value) (vs : List Value), e = .returned u ∧ w'.ownsRow w.heap.size 32 1 u vs.length vs ∧ PW w vs (cutW (sg k) 0 [] ws) ∧ Keeps [] w w') := by
      have := rsplit_any HW.out (by rw [← HN.out]; exact hwl) (sg k)
      rw [← HN.out] at this
      exact this
    have hsg := sg_cut k hk
    go_enter Tryz.func47, Tryz.ntmps47
    go_wp2_with fail
    refine Calls.mono HC1.out ?_
    rintro e w1 ⟨u, vs, rfl, hown, hpw, hk1⟩
    have hvl := hpw.len
    obtain ⟨P, hP⟩ : ∃ P, P = vs.length := ⟨_, rfl⟩
    have HP := hid_intro hP
    have HPW := hid_intro hpw
    have HVl := hid_intro hvl
    clear HC1 hsg hvl hpw
    by_cases h1 : 1 < P
    · obtain ⟨P', hP'⟩ : ∃ P', P = P' + 1 := ⟨P - 1, by omega⟩
      obtain ⟨g, cap', rfl⟩ : ∃ g cap', u = .slice (some ⟨g, 0, none⟩) P cap' := by
        rw [← hP, hP'] at hown
        obtain ⟨g, cap', e⟩ := own_slice hown
        exact ⟨g, cap', by rw [hP']; exact e⟩
      have hcells : ∀ j (hj : j < vs.length), w1.cell? ⟨g, j, none⟩ = some vs[j] := fun j hj => by
        have := hown.cells (g := g) rfl j vs[j] (List.getElem?_eq_getElem hj)
        rw [Addr.add_mid, Nat.zero_add] at this
        exact this
      have HCells := hid_intro hcells
      have hPb : P ≤ 3000 := by
        have h2 := cut_count (sg k) ws
        rw [← HVl.out, ← HP.out, ← HN.out] at h2
        omega
      have h0 : 0 < vs.length := by rw [← HP.out]; omega
      obtain ⟨⟨a0, n0, c0, hv0⟩, hws0⟩ := HPW.out.at_ h0 (by rw [← HVl.out]; exact h0)
      have hc0 := hcells 0 h0
      rw [hv0] at hc0 hws0
      have hlen : ∀ p ∈ cutW (sg k) 0 [] ws, p.length < ws.length := cut_short (sg k) ws (by rw [← HVl.out, ← HP.out]; omega)
      have HLen := hid_intro hlen
      have hl0 := hlen _ (List.getElem_mem (by rw [← HVl.out]; exact h0 : 0 < (cutW (sg k) 0 [] ws).length))
      have hnn := HN.out
      have HC2 := hid_intro (HIH.out (w := w1) (k' := k + 1) (deep' := deep) (by omega) (hws0.keeps hk1) (by omega) (by omega) (by omega) hd2 (HNV.out.keeps hk1) (HBV.out.keeps hk1))
      have h1i : (1 : Int) < (P : Int) := by omega
      clear hP hP' hcells hws0 hlen hl0 hnn hown hv0
      go_wp2_with fail
      refine Calls.mono HC2.out ?_
      rintro e w2 ⟨x0, ok0, rfl, hcm0, hk2⟩
      have HCm0 := hid_intro hcm0
      have hk12 : Keeps [] w1 w2 := hk2
      have hkw2 : Keeps [] w w2 := hk1.trans hk2
      clear HC2 hcm0 hc0
      go_wp2_with fail
      go_loopw [13, 14, 15] (fun y13 y14 y15 wr => ∃ (xs oks : List Bool) (j : Nat), (j ≤ xs.length ∧ xs.length ≤ j) ∧ (oks.length ≤ xs.length ∧ xs.length ≤ oks.length) ∧ 1 ≤ j ∧ j ≤ P ∧ y13 = .bool (fold1 k xs) ∧ y14 = .bool (oks.all id) ∧ y15 = .int .i64 j ∧ (∀ i (hi : i < xs.length) (ho : i < oks.length) (hp : i < (cutW (sg k) 0 [] ws).length), CmIs (Circ.look ns bs) (k + 1) deep (cutW (sg k) 0 [] ws)[i] xs[i] oks[i]) ∧ Keeps [] w1 wr) (fun _ _ y15 _ => P - (intOf y15).toNat)
      case atStart =>
        refine ⟨[x0], [ok0], 1, by simp, by simp, by omega, by omega, rfl, by simp, rfl, fun i hi ho hp => ?_, hk12⟩
        have : i = 0 := by simp at hi; omega
        subst this
        exact HCm0.out
      case round =>
        obtain ⟨xs, oks, j, hjx2, hol2, hj1, hjP, rfl, rfl, rfl, hcm, hkr⟩ := hrel
        have hjx : j = xs.length := by omega
        have hol : oks.length = xs.length := by omega
        clear hjx2 hol2
        have HJ := hid_intro hjx
        have HOl := hid_intro hol
        have HCm := hid_intro hcm
        clear hjx hol hcm
        by_cases hjlt : j < P
        · have hj0 : (0 : Int) ≤ (j : Int) := by omega
          have hji : (j : Int) < (P : Int) := by omega
          have hjv : j < vs.length := by rw [← HP.out]; exact hjlt
          have hjc : j < (cutW (sg k) 0 [] ws).length := by rw [← HVl.out]; exact hjv
          obtain ⟨⟨aj, nj, cj, hvj⟩, hwsj⟩ := HPW.out.at_ hjv hjc
          have hcj := hkr.cell (HCells.out j hjv) (by simp)
          rw [hvj] at hcj hwsj
          have hlj := HLen.out _ (List.getElem_mem hjc)
          have hnn := HN.out
          have hk1r : Keeps [] w wr := hk1.trans hkr
          have HC3 := hid_intro (HIH.out (w := wr) (k' := k + 1) (deep' := deep) (by omega) (hwsj.keeps hk1r) (by omega) (by omega) (by omega) hd2 (HNV.out.keeps hk1r) (HBV.out.keeps hk1r))
          clear hwsj hvj hlj hnn
          go_wp2_with fail
          refine Calls.mono HC3.out ?_
          rintro e w3 ⟨x, ok, rfl, hcmj, hk3⟩
          have hnew : ∀ i (hi : i < (xs ++ [x]).length) (ho : i < (oks ++ [ok]).length) (hp : i < (cutW (sg k) 0 [] ws).length), CmIs (Circ.look ns bs) (k + 1) deep (cutW (sg k) 0 [] ws)[i] (xs ++ [x])[i] (oks ++ [ok])[i] := by
            intro i hi ho hp
            have hJ := HJ.out
            have hO := HOl.out
            by_cases hix : i < xs.length
            · rw [List.getElem_append_left hix, List.getElem_append_left (by omega)]
              exact HCm.out i hix (by omega) hp
            · have hij : i = j := by simp at hi; omega
              subst hij
              rw [List.getElem_append_right (by omega), List.getElem_append_right (by omega)]
              simp only [hJ, hO, Nat.sub_self, List.getElem_cons_zero]
              simp only [hJ] at hcmj
              exact hcmj
          have hxne : xs ≠ [] := fun e0 => by have := HJ.out; rw [e0] at this; simp at this; omega
          have hfs := fold1_snoc k hxne x
          have hos : (oks ++ [ok]).all id = (oks.all id && ok) := by simp
          have HNew := hid_intro hnew
          have HFs := hid_intro hfs
          have HOs := hid_intro hos
          obtain ⟨A, hA⟩ : ∃ A, A = fold1 k xs := ⟨_, rfl⟩
          obtain ⟨O, hO⟩ : ∃ O, O = oks.all id := ⟨_, rfl⟩
          rw [← hA] at HFs ⊢
          rw [← hO] at HOs ⊢
          have hkw3 : Keeps [] w1 w3 := hkr.trans hk3
          clear HC3 hcj hcmj hnew hfs hos hA hO
          have hk012 : k = 0 ∨ k = 1 ∨ k = 2 := by omega
          have hkk : (((k : Int) == 0) = true ∧ k = 0) ∨ (((k : Int) == 0) = false ∧ ((k : Int) == 1) = true ∧ k = 1) ∨ (((k : Int) == 0) = false ∧ ((k : Int) == 1) = false ∧ k = 2) := by
            rcases hk012 with h | h | h <;> simp [h]
          clear hk012
          have HFs2 : Hid (∀ q, q = k → fold1 k (xs ++ [x]) = op q A x) := fun q hq => by rw [hq]; exact HFs.out
          clear HFs
          rcases hkk with ⟨e0, h⟩ | ⟨e0, e1, h⟩ | ⟨e0, e1, h⟩
          all_goals
            have HKq := hid_intro (HFs2.out _ h.symm)
            clear h HFs2
          all_goals (cases O <;> cases A)
          all_goals
            go_wp2_with fail
            exact ⟨⟨xs ++ [x], oks ++ [ok], j + 1, by have := HJ.out; simp; omega, by have := HOl.out; simp; omega, by omega, by omega, by rw [HKq.out]; cases x <;> rfl, by rw [HOs.out]; cases ok <;> rfl, by go_num, HNew.out, hkw3⟩, by simp [intOf]; omega⟩
        · have hjn : ¬ (j : Int) < (P : Int) := by omega
          have hfin : CmIs (Circ.look ns bs) k deep ws (fold1 k xs) (oks.all id) := by
            have hJ := HJ.out
            have hO := HOl.out
            have hV := HVl.out
            have hPP := HP.out
            exact cm_parts hk (by omega) (by omega) (fun i hp hx ho => HCm.out i hx ho hp)
          have HFin := hid_intro hfin
          have hkf : Keeps [] w wr := hk1.trans hkr
          clear hfin
          go_wp2_with fail
          go_ret2
          exact ⟨_, _, rfl, HFin.out, hkf⟩
    · have hP1 : P = 1 := by
        have h2 := HVl.out
        obtain ⟨p0, ps0, e1, _⟩ := cutW_join (sg k) ws 0 []
        rw [e1] at h2
        simp at h2
        omega
      obtain ⟨g, cap', rfl⟩ : ∃ g cap', u = .slice (some ⟨g, 0, none⟩) 1 cap' := by
        rw [← hP, hP1] at hown
        have h' : w1.ownsRow w.heap.size 32 1 u (0 + 1) vs := hown
        exact own_slice h'
      have hone : (cutW (sg k) 0 [] ws).length ≤ 1 := by rw [← HVl.out, ← hP]; omega
      have hw' : WS w1 (.slice a n cap) ws := by rw [HN.out]; exact HW.out.keeps hk1
      have hnn := HN.out
      have HC2 := hid_intro (HIH.out (w := w1) (ws' := ws) (k' := k + 1) (deep' := deep) (by omega) hw' (by omega) (by omega) (by omega) hd2 (HNV.out.keeps hk1) (HBV.out.keeps hk1))
      have HOne := hid_intro hone
      clear hP hP1 hone hw' hnn hown h1
      go_wp2_with fail
      refine Calls.mono HC2.out ?_
      rintro e w2 ⟨x, ok, rfl, hcm, hk2⟩
      have HCm := hid_intro (cm_up hk HOne.out hcm)
      have hkf : Keeps [] w w2 := hk1.trans hk2
      clear HC2 hcm
      go_wp2_with fail
      go_ret2
      exact ⟨_, _, rfl, HCm.out, hkf⟩
  · have hki : ¬ (k : Int) < 3 := by omega
    have HK : Hid (k = 3) := show k = 3 by omega
    by_cases hn0 : n = 0
    · have hws : ws = [] := List.length_eq_zero_iff.1 (by rw [← HN.out]; exact hn0)
      have HWs := hid_intro hws
      have hni : ((n : Int) == 0) = true := by simp [hn0]
      clear hws hn0
      go_enter Tryz.func47, Tryz.ntmps47
      go_wp2_with fail
      go_ret2
      exact ⟨_, _, rfl, by rw [HK.out, HWs.out]; exact cm_nil _ _ _, Keeps.refl _ _⟩
    · have hni : ((n : Int) == 0) = false := by simp; omega
      have hn1 : (0 : Int) < (n : Int) := by omega
      have h0l : 0 < ws.length := by rw [← HN.out]; omega
      obtain ⟨b, of, hab, hb, hc⟩ := HW.out.word h0l
      subst hab
      obtain ⟨x, r, hxr⟩ : ∃ x r, ws = x :: r := by
        cases ws with
        | nil => simp at h0l
        | cons x r => exact ⟨x, r, rfl⟩
      have hx0 : ws[0] = x := by simp [hxr]
      rw [hx0, Nat.add_zero] at hc
      have HXR := hid_intro hxr
      clear hxr hx0
      by_cases x1 : x = bang
      · have q1 := lit_eq x [33] true (decide_eq_true (show x = mk [33] from x1))
        have HX1 := hid_intro x1
        clear x1
        have hnn := HN.out
        have hrl : ws.length = r.length + 1 := by rw [HXR.out]; rfl
        have hw' : WS w (.slice (some ⟨b, of, none⟩) n cap) ws := by rw [HN.out]; exact HW.out
        have hcw := cut_ws (f := 1) (g := n) (t := n - 1) hw' hnn.symm (by omega) (by omega) rfl
        have hrr : (ws.drop 1).take (n - 1) = r := by
          rw [HXR.out, List.drop_succ_cons, List.drop_zero, List.take_of_length_le (by omega)]
        rw [hrr] at hcw
        have HRl := hid_intro hrl
        have HC2 := hid_intro (HIH.out (w := w) (ws' := r) (k' := 3) (deep' := deep - 1) (by omega) hcw (by omega) (by omega) (by omega) (by omega) HNV.out HBV.out)
        have hdw : IntKind.i64.wrap (deep - 1) = deep - 1 := IntWalk.i64_in _ ⟨by omega, by omega⟩
        unfold cutV at HC2
        have hn1' : (1 : Int) ≤ (n : Int) := by omega
        clear hnn hrl hw' hcw hrr
        by_cases hc1 : cap = 1
        · rw [if_pos hc1] at HC2
          have HC1e := hid_intro hc1
          go_enter Tryz.func47, Tryz.ntmps47
          go_wp2_with fail
          refine Calls.mono HC2.out ?_
          rintro e w2 ⟨x', ok', rfl, hcm, hk2⟩
          have hb2 : CmIs (Circ.look ns bs) k deep ws (!x') (ok' && decide (0 < deep)) := by
            rw [HK.out, HXR.out, HX1.out]; exact cm_bang hcm
          have HB2 := hid_intro hb2
          clear HC2 hcm hb2
          by_cases hdp : 0 < deep
          · have HD : Hid (decide (0 < deep) = true) := decide_eq_true hdp
            cases ok'
            all_goals
              go_wp2_with fail
              go_ret2
              have := HB2.out
              rw [HD.out] at this
              exact ⟨_, _, rfl, this, hk2⟩
          · have HD : Hid (decide (0 < deep) = false) := decide_eq_false hdp
            cases ok'
            all_goals
              go_wp2_with fail
              go_ret2
              have := HB2.out
              first
                | exact ⟨_, _, rfl, this, hk2⟩
                | (refine ⟨_, _, rfl, ?_, hk2⟩
                   rw [HD.out] at this ⊢
                   exact this)
        · rw [if_neg hc1] at HC2
          go_enter Tryz.func47, Tryz.ntmps47
          go_wp2_with fail
          refine Calls.mono HC2.out ?_
          rintro e w2 ⟨x', ok', rfl, hcm, hk2⟩
          have hb2 : CmIs (Circ.look ns bs) k deep ws (!x') (ok' && decide (0 < deep)) := by
            rw [HK.out, HXR.out, HX1.out]; exact cm_bang hcm
          have HB2 := hid_intro hb2
          clear HC2 hcm hb2
          by_cases hdp : 0 < deep
          · have HD : Hid (decide (0 < deep) = true) := decide_eq_true hdp
            cases ok'
            all_goals
              go_wp2_with fail
              go_ret2
              have := HB2.out
              rw [HD.out] at this
              exact ⟨_, _, rfl, this, hk2⟩
          · have HD : Hid (decide (0 < deep) = false) := decide_eq_false hdp
            cases ok'
            all_goals
              go_wp2_with fail
              go_ret2
              have := HB2.out
              first
                | exact ⟨_, _, rfl, this, hk2⟩
                | (refine ⟨_, _, rfl, ?_, hk2⟩
                   rw [HD.out] at this ⊢
                   exact this)
      · have q1 := lit_eq x [33] false (decide_eq_false (show ¬ x = mk [33] from x1))
        by_cases x2 : x = opn
        · have q2 := lit_eq x [40] true (decide_eq_true (show x = mk [40] from x2))
          have HX2 := hid_intro x2
          clear x1 x2
          have hnn := HN.out
          have hw' : WS w (.slice (some ⟨b, of, none⟩) n cap) ws := by rw [HN.out]; exact HW.out
          have HCl := hid_intro (rclosed_any hw' (by omega))
          have HW' := hid_intro hw'
          clear hnn hw'
          go_enter Tryz.func47, Tryz.ntmps47
          go_wp2_with fail
          refine Calls.mono HCl.out ?_
          rintro e w1 ⟨rfl, rfl⟩
          obtain ⟨cl, hcl⟩ : ∃ cl, cl = closedW 0 ws := ⟨_, rfl⟩
          rw [← hcl]
          have HCe := hid_intro hcl
          clear hcl HCl
          cases cl with
          | false =>
            have hm : CmIs (Circ.look ns bs) k deep ws false false := by
              have h5 := HCe.out
              rw [HXR.out, HX2.out] at h5
              rw [HK.out, HXR.out, HX2.out]
              exact cm_shut (Or.inl h5.symm)
            have HM := hid_intro hm
            clear hm
            go_wp2_with fail
            go_ret2
            exact ⟨_, _, rfl, HM.out, Keeps.refl _ _⟩
          | true =>
            by_cases hdp : deep < 1
            · have hm : CmIs (Circ.look ns bs) k deep ws false false := by
                rw [HK.out, HXR.out, HX2.out]
                exact cm_shut (Or.inr hdp)
              have HM := hid_intro hm
              clear hm
              go_wp2_with fail
              go_ret2
              exact ⟨_, _, rfl, HM.out, Keeps.refl _ _⟩
            · have h5 := HCe.out
              rw [HXR.out, HX2.out] at h5
              obtain ⟨mid, hmid⟩ := closedW_open h5.symm
              have hwm : ws = opn :: (mid ++ [cls]) := by rw [HXR.out, HX2.out, hmid]
              have hlm : n = mid.length + 2 := by rw [HN.out, hwm]; simp
              obtain ⟨t, ht⟩ : ∃ t, t = n - 1 := ⟨_, rfl⟩
              have hcw := cut_ws (f := 1) (g := t) (t := t - 1) HW'.out HN.out.symm (by have := HN.out; omega) (by omega) rfl
              have hrr : (ws.drop 1).take (t - 1) = mid := by
                rw [hwm, List.drop_succ_cons, List.drop_zero, List.take_left' (by omega)]
              rw [hrr] at hcw
              have hlw : ws.length = n := HN.out.symm
              have HC2 := hid_intro (HIH.out (w := w) (ws' := mid) (k' := 0) (deep' := deep - 1) (by omega) hcw (by omega) (by omega) (by omega) (by omega) HNV.out HBV.out)
              have hdw : IntKind.i64.wrap (deep - 1) = deep - 1 := IntWalk.i64_in _ ⟨by omega, by omega⟩
              have hnw : IntKind.i64.wrap ((n : Int) - 1) = (t : Int) := by
                rw [IntWalk.i64_in _ ⟨by omega, by omega⟩]; omega
              have hc1 : ¬ cap = 1 := by omega
              unfold cutV at HC2
              rw [if_neg hc1] at HC2
              have ht1 : (1 : Int) ≤ (t : Int) := by omega
              have ht2 : (t : Int) ≤ (n : Int) := by omega
              have ht3 : (t : Int) ≤ (cap : Int) := by omega
              have HWM := hid_intro hwm
              have hd1' : 1 ≤ deep := by omega
              have HD1 := hid_intro hd1'
              clear hwm hlm hcw hrr hlw hmid ht h5 HIH
              go_wp2_with fail
              refine Calls.mono HC2.out ?_
              rintro e w2 ⟨x', ok', rfl, hcm, hk2⟩
              have hb2 : CmIs (Circ.look ns bs) k deep ws x' ok' := by
                rw [HK.out, HWM.out]; exact cm_opened HD1.out hcm
              have HB2 := hid_intro hb2
              clear HC2 hcm hb2
              go_wp2_with fail
              go_ret2
              exact ⟨_, _, rfl, HB2.out, hk2⟩
        · have q2 := lit_eq x [40] false (decide_eq_false (show ¬ x = mk [40] from x2))
          by_cases hn2 : 1 < n
          · have hn2i : (1 : Int) < (n : Int) := by omega
            have hmore : CmIs (Circ.look ns bs) k deep ws false false := by
              have h3 := HN.out
              have h4 := HXR.out
              cases hr : r with
              | nil => rw [h4, hr] at h3; simp at h3; omega
              | cons z l => rw [HK.out, h4, hr]; exact cm_more x1 x2
            have HM := hid_intro hmore
            clear hmore x1 x2
            go_enter Tryz.func47, Tryz.ntmps47
            go_wp2_with fail
            go_ret2
            exact ⟨_, _, rfl, HM.out, Keeps.refl _ _⟩
          · have hn2i : ¬ (1 : Int) < (n : Int) := by omega
            have hone : ws = [x] := by
              have h3 := HN.out
              rw [HXR.out] at h3 ⊢
              cases r with
              | nil => rfl
              | cons z l => simp at h3; omega
            have HOne := hid_intro hone
            clear hone
            by_cases x3 : x = zer
            · have q3 := lit_eq x [48] true (decide_eq_true (show x = mk [48] from x3))
              have q4 := lit_eq x [49] false (by rw [decide_eq_false_iff_not, x3]; decide)
              have hm : CmIs (Circ.look ns bs) k deep ws false true := by
                rw [HK.out, HOne.out]
                have := cm_lit (v := Circ.look ns bs) (deep := deep) (y := x) (Or.inl x3)
                rw [show decide (x = one) = false by rw [x3]; decide] at this
                exact this
              have HM := hid_intro hm
              clear hm x1 x2 x3
              go_enter Tryz.func47, Tryz.ntmps47
              go_wp2_with fail
              go_ret2
              exact ⟨_, _, rfl, HM.out, Keeps.refl _ _⟩
            · have q3 := lit_eq x [48] false (decide_eq_false (show ¬ x = mk [48] from x3))
              by_cases x4 : x = one
              · have q4 := lit_eq x [49] true (decide_eq_true (show x = mk [49] from x4))
                have hm : CmIs (Circ.look ns bs) k deep ws true true := by
                  rw [HK.out, HOne.out]
                  have := cm_lit (v := Circ.look ns bs) (deep := deep) (y := x) (Or.inr x4)
                  rw [decide_eq_true x4] at this
                  exact this
                have HM := hid_intro hm
                clear hm x1 x2 x3 x4
                go_enter Tryz.func47, Tryz.ntmps47
                go_wp2_with fail
                go_ret2
                exact ⟨_, _, rfl, HM.out, Keeps.refl _ _⟩
              · have q4 := lit_eq x [49] false (decide_eq_false (show ¬ x = mk [49] from x4))
                have hword : ∀ (y ok : Bool), ok = isName x → (isName x = true → y = Circ.look ns bs x) → CmIs (Circ.look ns bs) k deep ws y ok := fun y ok h1 h2 => by
                  rw [HK.out, HOne.out]
                  exact cm_word x1 x2 x3 x4 h1 h2
                have HWord := hid_intro hword
                clear hword x1 x2 x3 x4
                obtain ⟨na, ncap, rfl, hncap⟩ := HNV.out.shape
                obtain ⟨N, hNN⟩ : ∃ N, N = ns.length := ⟨_, rfl⟩
                have HNN := hid_intro hNN
                obtain ⟨ba, bcap, rfl, hbs⟩ := HBV.out
                have hbl2 : bs.length = N := by rw [HBl.out, hNN]
                rw [hbl2, ← hNN]
                rw [← hNN] at hnl hncap
                have HBs := hid_intro hbs
                have HBN := hid_intro hbl2
                clear hbs hNN hbl2 HIH
                go_enter Tryz.func47, Tryz.ntmps47
                go_wp2_with fail
                go_loopw [21] (fun y wr => ∃ j : Nat, y = .int .i64 j ∧ j ≤ N ∧ Circ.look ns bs x = Circ.look (ns.drop j) (bs.drop j) x ∧ Keeps [] w wr) (fun y _ => N - (intOf y).toNat)
                case atStart => exact ⟨0, rfl, by omega, by rw [List.drop_zero, List.drop_zero], Keeps.refl _ _⟩
                case round =>
                  obtain ⟨j, rfl, hj, hst, hkr⟩ := hrel
                  have hcx := hkr.cell hc (by simp)
                  by_cases hlt : j < N
                  · have hj0 : (0 : Int) ≤ (j : Int) := by omega
                    have hj1 : (j : Int) < (N : Int) := by omega
                    have hjl : j < ns.length := by rw [← HNN.out]; exact hlt
                    have hjb : j < bs.length := by rw [HBN.out]; exact hlt
                    obtain ⟨nb, nf, hna, hb', hcn⟩ := HNV.out.word hjl
                    have hcn := hkr.cell hcn (by simp)
                    obtain ⟨bb, bf, hba, hb'', hcb⟩ := HBs.out j hjb
                    have hcb := (hkr.drew).cell hcb (by simp)
                    rw [List.drop_eq_getElem_cons hjl, List.drop_eq_getElem_cons hjb] at hst
                    have hmem := HNm.out _ (List.getElem_mem hjl)
                    obtain ⟨z, hz⟩ : ∃ z, z = ns[j] := ⟨_, rfl⟩
                    obtain ⟨bj, hbj⟩ : ∃ z, z = bs[j] := ⟨_, rfl⟩
                    rw [← hz] at hcn hst hmem
                    rw [← hbj] at hcb hst
                    have qs := beq_bl z x
                    simp only [Circ.look] at hst
                    rw [hna, hba]
                    have hn1n : 0 < n := by omega
                    have hn1z : (0 : Int) ≤ 0 := by omega
                    have s0 : wr.drew.cell? ⟨nb, nf + j, none⟩ = some (.string z) ∧ wr.drew.cell? ⟨b, of, none⟩ = some (.string x) := ⟨hcn, hcx⟩
                    have hMem := hid_intro hmem
                    have hkd := hkr.drew
                    clear hz hbj hmem hna hba
                    by_cases x5 : z = x
                    · rw [decide_eq_true x5] at qs
                      rw [if_pos x5] at hst
                      have HSt := hid_intro hst
                      have HX5 := hid_intro x5
                      clear hst x5
                      go_wp2_with fail
                      go_region_held3 (fun w' => w'.cell? ⟨nb, nf + j, none⟩ = some (.string z) ∧ w'.cell? ⟨b, of, none⟩ = some (.string x))
                        (first | exact s0 | assumption)
                        (fail)
                      go_wp2_with fail
                      go_ret2
                      exact ⟨_, _, rfl, HWord.out _ _ (by rw [← HX5.out]; exact hMem.out.symm) (fun _ => HSt.out.symm), hkd⟩
                    · rw [decide_eq_false x5] at qs
                      rw [if_neg x5] at hst
                      have HSt := hid_intro hst
                      clear hst x5
                      go_wp2_with fail
                      go_region_held3 (fun w' => w'.cell? ⟨nb, nf + j, none⟩ = some (.string z) ∧ w'.cell? ⟨b, of, none⟩ = some (.string x))
                        (first | exact s0 | assumption)
                        (fail)
                      go_wp2_with fail
                      exact ⟨⟨j + 1, by go_num, by omega, HSt.out, hkd⟩, by simp [intOf]; omega⟩
                  · have hjn : ¬ (j : Int) < (N : Int) := by omega
                    have hfin : Circ.look ns bs x = false := by
                      rw [hst, List.drop_of_length_le (by rw [← HNN.out]; omega)]
                      simp [Circ.look]
                    have HFin := hid_intro hfin
                    have HIN := hid_intro (risName_any (w := wr) x)
                    clear hst hfin
                    go_wp2_with fail
                    refine Calls.mono HIN.out ?_
                    rintro e w2 ⟨rfl, rfl⟩
                    go_wp2_with fail
                    go_ret2
                    exact ⟨_, _, rfl, HWord.out _ _ rfl (fun _ => HFin.out.symm), hkr⟩

end Go.Proofs.YtmgjegokkbghlaaGreatDoor

namespace Go.Proofs.YtmgjegokkbghlaaGreatDoor
open Go.RowKit Go.Maps Gram Circ
set_option linter.unusedVariables false

/-- the letter of a kind of line -/
def kb (k : Nat) : Int := if k = 1 then 105 else if k = 2 then 108 else if k = 3 then 110 else if k = 4 then 98 else 0
/-- what a latch holds at first, as the document keeps it -/
def atB (f : W) : Int := if f = zer then 48 else if f = one then 49 else if f = que then 63 else 0
def SayIs (base : Nat) (res : Option Ln) (e : Ending) (w' : World) : Prop := match res with
  | none => ∃ k n f a m c, e = .returned (.tuple #[.agg #[.int .u8 k, .string n, .int .u8 f, .slice a m c], .bool false])
  | some x => ∃ a m c, e = .returned (.tuple #[.agg #[.int .u8 (kb x.kind), .string x.name, .int .u8 (atB x.first), .slice a m c], .bool true]) ∧ WS w' (.slice a m c) x.ws ∧ ∀ b, (Value.slice a m c).ownBlock = some b → base ≤ b
theorem sayIs_no {base : Nat} {res : Option Ln} {w' : World} {k : Int} {n : ByteArray} {f : Int} {a : Option Addr} {m c : Nat} (h : res = none) : SayIs base res (.returned (.tuple #[.agg #[.int .u8 k, .string n, .int .u8 f, .slice a m c], .bool false])) w' := by
  subst h; exact ⟨_, _, _, _, _, _, rfl⟩
theorem SayIs.no {base : Nat} {res : Option Ln} {e : Ending} {w' : World} (h : SayIs base res e w') (hr : res = none) : ∃ k n f a m c, e = .returned (.tuple #[.agg #[.int .u8 k, .string n, .int .u8 f, .slice a m c], .bool false]) := by
  subst hr; exact h
theorem SayIs.yes {base : Nat} {res : Option Ln} {x : Ln} {e : Ending} {w' : World} (h : SayIs base res e w') (hr : res = some x) : ∃ a m c, e = .returned (.tuple #[.agg #[.int .u8 (kb x.kind), .string x.name, .int .u8 (atB x.first), .slice a m c], .bool true]) ∧ WS w' (.slice a m c) x.ws ∧ ∀ b, (Value.slice a m c).ownBlock = some b → base ≤ b := by
  subst hr; exact h

/-- what a line that was read is like -/
structure LnD (x : Ln) : Prop where
  kind : x.kind ≤ 4
  few : x.ws.length ≤ 1000
  ex : x.kind = 3 ∨ x.kind = 4 → G 0 8 x.ws x.ex
  no : ¬ (x.kind = 3 ∨ x.kind = 4) → x.ws = [] ∧ x.ex = .lit false
  name : x.kind = 1 ∨ x.kind = 2 ∨ x.kind = 3 → isName x.name = true
  first : x.kind = 2 → x.first = zer ∨ x.first = one ∨ x.first = que
theorem lineD {ws : List W} {x : Ln} (h : lineOf ws = some x) (hl : ws.length ≤ 1000) : LnD x := by
  cases ws with
  | nil => cases h; exact ⟨by decide, by simp, by simp, by simp, by simp, by simp⟩
  | cons y r =>
    rw [lineOf_cons] at h
    split at h
    · unfold inputOf at h
      split at h
      · split at h
        · rename_i hn; cases h; exact ⟨by simp, by simp, by simp, by simp, by simpa using hn, by simp⟩
        · cases h
      · cases h
    · split at h
      · unfold latchOf at h
        split at h
        · split at h
          · rename_i hn
            cases h
            simp only [Bool.and_eq_true, isFirst, Bool.or_eq_true, decide_eq_true_iff] at hn
            exact ⟨by simp, by simp, by simp, by simp, fun _ => hn.1, fun _ => by rcases hn.2 with (h | h) | h <;> simp [h]⟩
          · cases h
        · cases h
      · split at h
        · unfold nextOfW at h
          split at h
          · rename_i n q e
            split at h
            · rename_i hn
              cases hp : parseW e with
              | none => rw [hp] at h; cases h
              | some ex =>
                rw [hp] at h
                cases h
                simp only [Bool.and_eq_true] at hn
                exact ⟨by simp, by simp at hl ⊢; omega, fun _ => parseW_iff.1 hp, by simp, fun _ => hn.1, by simp⟩
            · cases h
          · cases h
        · split at h
          · unfold badOfW at h
            split at h
            · rename_i q e
              split at h
              · cases hp : parseW e with
                | none => rw [hp] at h; cases h
                | some ex =>
                  rw [hp] at h
                  cases h
                  exact ⟨by simp, by simp at hl ⊢; omega, fun _ => parseW_iff.1 hp, by simp, by simp, by simp⟩
              · cases h
            · cases h
          · cases h
theorem sayD {s : List UInt8} {x : Ln} (h : sayOf s = some x) (hs : s.length ≤ 1000) : LnD x := by
  unfold sayOf at h
  split at h
  · cases h
  · rename_i ws hw
    have := words_len hw
    exact lineD h (by omega)

/-- THE DOCUMENT'S LINES in memory -/
def LD (w : World) (v : Value) (ls : List Ln) : Prop :=
  ∃ g cap, v = .slice (some ⟨g, 0, none⟩) ls.length cap ∧ ls.length ≤ cap ∧ g < w.heap.size ∧ ls.length ≤ 1001 ∧ (∀ x ∈ ls, LnD x) ∧ ∀ i (hi : i < ls.length), ∃ a n c, w.cell? ⟨g, i * 4, none⟩ = some (.int .u8 (kb ls[i].kind)) ∧ w.cell? ⟨g, i * 4 + 1, none⟩ = some (.string ls[i].name) ∧ w.cell? ⟨g, i * 4 + 2, none⟩ = some (.int .u8 (atB ls[i].first)) ∧ w.cell? ⟨g, i * 4 + 3, none⟩ = some (.slice a n c) ∧ WS w (.slice a n c) ls[i].ws
theorem LD.keeps {w w' : World} {v : Value} {ls : List Ln} (h : LD w v ls) (hk : Keeps [] w w') : LD w' v ls := by
  obtain ⟨g, cap, h1, h2, h3, h4, h5, h6⟩ := h
  refine ⟨g, cap, h1, h2, Nat.lt_of_lt_of_le h3 hk.size, h4, h5, fun i hi => ?_⟩
  obtain ⟨a, n, c, k1, k2, k3, k4, k5⟩ := h6 i hi
  exact ⟨a, n, c, hk.cell k1 (by simp), hk.cell k2 (by simp), hk.cell k3 (by simp), hk.cell k4 (by simp), k5.keeps hk⟩
theorem LD.take {w : World} {g cap n m : Nat} {ls : List Ln} (h : LD w (.slice (some ⟨g, 0, none⟩) n cap) ls) (hm : m ≤ ls.length) : LD w (.slice (some ⟨g, 0, none⟩) m cap) (ls.take m) := by
  obtain ⟨g', cap', h1, h2, h3, h4, h5, h6⟩ := h
  obtain ⟨rfl, rfl, rfl⟩ : g = g' ∧ n = ls.length ∧ cap = cap' := by simpa using h1
  have hl : (ls.take m).length = m := by rw [List.length_take]; omega
  refine ⟨g, cap, by rw [hl], by omega, h3, by omega, fun x hx => h5 x (List.mem_of_mem_take hx), fun i hi => ?_⟩
  rw [List.getElem_take]
  exact h6 i (by omega)

/-- the names of lines of two letters -/
def namesOf (a b : Int) (ls : List Ln) : List W := (ls.filter fun x => kb x.kind == a || kb x.kind == b).map (·.name)
theorem namesOf_take {a b : Int} {ls : List Ln} {j : Nat} (hj : j < ls.length) : namesOf a b (ls.take (j + 1)) = namesOf a b (ls.take j) ++ if (kb ls[j].kind == a || kb ls[j].kind == b) = true then [ls[j].name] else [] := by
  unfold namesOf
  rw [List.take_succ_eq_append_getElem hj, List.filter_append, List.map_append]
  congr 1
  by_cases h : (kb ls[j].kind == a || kb ls[j].kind == b) = true
  · rw [if_pos h, List.filter_cons, if_pos h]; rfl
  · rw [if_neg h, List.filter_cons, if_neg h]; rfl
theorem kb_iff {k j : Nat} (hk : k ≤ 4) (hj : 1 ≤ j ∧ j ≤ 4) : (kb k == kb j) = (k == j) := by
  have h1 : k = 0 ∨ k = 1 ∨ k = 2 ∨ k = 3 ∨ k = 4 := by omega
  have h2 : j = 1 ∨ j = 2 ∨ j = 3 ∨ j = 4 := by omega
  rcases h1 with rfl | rfl | rfl | rfl | rfl <;> rcases h2 with rfl | rfl | rfl | rfl <;> decide
theorem kb_eq {k j : Nat} (hk : k ≤ 4) (hj : j ≤ 4) : (kb k == kb j) = (k == j) := by
  have h1 : k = 0 ∨ k = 1 ∨ k = 2 ∨ k = 3 ∨ k = 4 := by omega
  have h2 : j = 0 ∨ j = 1 ∨ j = 2 ∨ j = 3 ∨ j = 4 := by omega
  rcases h1 with rfl | rfl | rfl | rfl | rfl <;> rcases h2 with rfl | rfl | rfl | rfl | rfl <;> decide
theorem namesOf_one {k : Nat} (hk : 1 ≤ k ∧ k ≤ 4) {ls : List Ln} (h : ∀ x ∈ ls, LnD x) : namesOf (kb k) (kb k) ls = named k ls := by
  unfold namesOf named
  congr 1
  refine List.filter_congr (fun x hx => ?_)
  rw [Bool.or_self, kb_iff (h x hx).kind hk]
theorem namesOf_decl {ls : List Ln} (h : ∀ x ∈ ls, LnD x) : namesOf 105 108 ls = declared ls := by
  unfold namesOf declared
  congr 1
  refine List.filter_congr (fun x hx => ?_)
  have h1 := kb_iff (h x hx).kind (j := 1) (by omega)
  have h2 := kb_iff (h x hx).kind (j := 2) (by omega)
  unfold decl
  rw [← h1, ← h2]; rfl
theorem named_howMany (k : Nat) (ls : List Ln) : (named k ls).length = howMany k ls := by
  unfold named howMany
  rw [List.length_map, List.countP_eq_length_filter]

end Go.Proofs.YtmgjegokkbghlaaGreatDoor
