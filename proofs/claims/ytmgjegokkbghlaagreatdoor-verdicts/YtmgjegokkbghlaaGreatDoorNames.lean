/- The walk of names: slices.Clone, IndexFunc, DeleteFunc. -/
import Derived.Test.YtmgjegokkbghlaaGreatDoorFaultsC
import Derived.ArgAppend
import Derived.WalkMore
import Derived.Deep.MidRow
import Derived.Lib.SliceRun
namespace Go.Proofs.YtmgjegokkbghlaaGreatDoor
open Go.RowKit Go.Maps Gram Circ
set_option linter.unusedVariables false

theorem names1_any {w : World} (s : ByteArray) (h : 0 < s.size) :
    Calls Tryz.prog 129 #[.string s] w fun e w' => e = .returned (.bool (!isName s)) ∧ w = w' := by
  have hcall := @isName_any w s h
  obtain ⟨b, hb⟩ : ∃ b, b = isName s := ⟨_, rfl⟩
  rw [← hb] at hcall ⊢
  clear hb
  go_enter Tryz.func129, Tryz.ntmps129
  go_wp2_with (first
    | (go_at_call 130; refine hcall.mono ?_; rintro e w' ⟨rfl, rfl⟩))
  go_ret
  exact ⟨rfl, rfl⟩

theorem ret_i {a b : Int} (h : a = b) : Ending.returned (.int .i64 a) = .returned (.int .i64 b) := by rw [h]
def fnV : Value := .func (.func 129) #[] #[]

/-- where the first word is that is no name -/
def noName (l : List W) : Int := match l.findIdx? (fun x => !isName x) with
  | some i => i
  | none => -1
theorem noName_some {l : List W} {i : Nat} (hi : i < l.length) (h : isName l[i] = false) (hb : ∀ j (hj : j < l.length), j < i → isName l[j] = true) : noName l = i := by
  unfold noName
  have : l.findIdx? (fun x => !isName x) = some i := by
    rw [List.findIdx?_eq_some_iff_getElem]
    exact ⟨hi, by simp [h], fun j hj => by simp [hb j (by omega) hj]⟩
  rw [this]
theorem noName_none {l : List W} (hb : ∀ j (hj : j < l.length), isName l[j] = true) : noName l = -1 := by
  unfold noName
  have : l.findIdx? (fun x => !isName x) = none := by
    rw [List.findIdx?_eq_none_iff]
    intro x hx
    obtain ⟨j, hj, rfl⟩ := List.mem_iff_getElem.1 hx
    simp [hb j hj]
  rw [this]

set_option maxRecDepth 100000 in
set_option maxHeartbeats 1000000 in
theorem indexFunc_any {w : World} {v : Value} {l : List W} (hv : WS w v l) (hl : l.length ≤ 5000) (hpos : ∀ x ∈ l, 0 < ByteArray.size x) :
    Calls Tryz.prog 180 #[v, fnV] w fun e w' => e = .returned (.int .i64 (noName l)) ∧ Keeps [] w w' := by
  obtain ⟨a, cap, rfl, hcap, hmx, hcell⟩ := hv
  obtain ⟨len, hlen⟩ : ∃ len, len = l.length := ⟨_, rfl⟩
  rw [← hlen] at hcap hl ⊢
  have HLen : Hid (len = l.length) := hlen
  have HC : Hid (∀ j (hj : j < l.length), ∃ b o, a = some ⟨b, o, none⟩ ∧ b ≠ w.heap.size ∧ b < w.heap.size ∧ w.cell? ⟨b, o + j, none⟩ = some (.string l[j])) := hcell
  clear hcell hlen
  unfold fnV
  go_enter Tryz.func180, Tryz.ntmps180
  go_wp2_with fail
  go_loopw [8] (fun x wr => ∃ j : Nat, j ≤ len ∧ x = .int .i64 j ∧ (∀ i (hi : i < l.length), i < j → isName l[i] = true) ∧ Keeps [] w wr) (fun x _ => len - (intOf x).toNat)
  case atStart => exact ⟨0, by omega, rfl, fun i _ hi => by omega, Keeps.refl _ _⟩
  case round =>
    obtain ⟨j, hj, rfl, hno, hk⟩ := hrel
    by_cases hlt : j < len
    · have hj0 : (0 : Int) ≤ (j : Int) := by omega
      have hj1 : (j : Int) < (len : Int) := by omega
      have hjl : j < l.length := by rw [← HLen.out]; exact hlt
      obtain ⟨b, o, rfl, hbw, hbs, hc⟩ := HC.out j hjl
      have hp := hpos _ (List.getElem_mem hjl)
      have HNo : Hid (∀ i (hi : i < l.length), i < j → isName l[i] = true) := hno
      have hc := hk.cell hc (by simp)
      obtain ⟨x, hx⟩ : ∃ x, x = l[j] := ⟨_, rfl⟩
      have HX : Hid (x = l[j]) := hx
      rw [← hx] at hc hp
      have hcall := @names1_any wr x hp
      have HCall : Hid (Calls Tryz.prog 129 #[.string x] wr fun e w' => e = .returned (.bool (!isName x)) ∧ wr = w') := hcall
      clear hno hx hcall hp hpos
      cases hb : isName x
      · rw [hb] at HCall
        go_wp2_with (first
          | (go_at_call 129; refine HCall.out.mono ?_; rintro e w' ⟨rfl, rfl⟩)
          | fail)
        go_ret
        refine ⟨?_, hk⟩
        exact ret_i (noName_some hjl (by rw [← HX.out]; exact hb) (fun i hi h => HNo.out i hi h)).symm
      · rw [hb] at HCall
        go_wp2_with (first
          | (go_at_call 129; refine HCall.out.mono ?_; rintro e w' ⟨rfl, rfl⟩)
          | fail)
        refine ⟨⟨j + 1, by omega, by go_num, fun i hi h => ?_, hk⟩, by simp [intOf]; omega⟩
        by_cases e : i = j
        · subst e; rw [← HX.out]; exact hb
        · exact HNo.out i hi (by omega)
    · obtain rfl : j = len := by omega
      have HNo : Hid (∀ i (hi : i < l.length), i < j → isName l[i] = true) := hno
      clear hno
      go_wp2_with fail
      go_ret
      refine ⟨?_, hk⟩
      exact ret_i (noName_none (fun i hi => HNo.out i hi (by rw [HLen.out]; exact hi))).symm

/-! ### a copy of words -/
/-- words that may be written -/
def Wr (w : World) (g : Nat) (xs : List W) : Prop := ∀ k (hk : k < xs.length), w.cell? ⟨g, k, none⟩ = some (.string xs[k]) ∧ w.frozen? ⟨g, k, none⟩ = false
theorem Wr.set {w : World} {g : Nat} {xs : List W} (h : Wr w g xs) {i : Nat} (hi : i < xs.length) (x : W) : Wr (w.setCell ⟨g, i, none⟩ (.string x)) g (xs.set i x) := by
  intro k hk
  have hk' : k < xs.length := by simpa using hk
  refine ⟨?_, by rw [World.frozen?_setCell]; exact (h k hk').2⟩
  by_cases e : k = i
  · subst e
    rw [World.cell?_setCell_same _ _ _ (h k hk').1]
    simp
  · rw [World.cell?_setCell_other _ _ _ _ (by first | (simp; done) | (simp; omega)), (h k hk').1]
    rw [List.getElem_set_ne (Ne.symm e)]

theorem zeroStr (w : World) : (zeroValue 9).run Tryz.prog w = .ok (.string ByteArray.empty) w := by kernel_rfl
def CloneIs (w : World) (l : List W) (e : Ending) (w' : World) : Prop :=
  (l = [] ∧ ∃ a cap, e = .returned (.slice a 0 cap) ∧ cap ≤ maxLen ∧ Keeps [] w w') ∨
  (l ≠ [] ∧ ∃ g cap, e = .returned (.slice (some ⟨g, 0, none⟩) l.length cap) ∧ l.length ≤ cap ∧ cap ≤ maxLen ∧ w.heap.size ≤ g ∧ g < w'.heap.size ∧ Wr w' g l ∧ Keeps [] w w')

set_option maxRecDepth 100000 in
set_option maxHeartbeats 1000000 in
theorem cloneE_any {w : World} {v : Value} {l : List W} (hv : WS w v l) (hl : l.length ≤ 5000) :
    Calls Tryz.prog 128 #[v] w fun e w' => CloneIs w l e w' := by
  obtain ⟨i0, hi, hz0, hz1, hz2⟩ := info_parts infoStr
  have hml : 2000000 < maxLen := by decide
  obtain ⟨a, cap, rfl, hcap, hmx, hcell⟩ := hv
  have q22 : ∀ (w : World) (a : Option Addr) (n c n' c' : Nat), (binOp .eql 50 (.slice a n c) (.slice none n' c')).run Tryz.prog w = .ok (.bool a.isNone) w := fun w a n c n' c' => Lib.run_eql_slice_nil w _ _ a n c n' c' Tryz.underlying50
  by_cases h0 : l = []
  · subst h0
    cases a with
    | none =>
      go_enter Tryz.func128, Tryz.ntmps128
      go_wp2_with fail
      go_ret
      exact Or.inl ⟨rfl, _, _, rfl, by omega, Keeps.refl _ _⟩
    | some b =>
      have happ : ∀ (w : World) ty, (Builtin.append_ #[50, 50] ty #[.slice (some ⟨w.heap.size - 1, 0, none⟩) 0 0, .slice (some b) 0 cap]).run Tryz.prog w = .ok (.slice (some ⟨w.heap.size - 1, 0, none⟩) 0 0) w := by
        intro w ty
        have := run_append_room_cells (P := Tryz.prog) w 50 ty 9 i0 Tryz.underlying50 hi (w.heap.size - 1) 0 0 0 b 0 cap [] (by simp) (by simp) (by simp) (by omega) (by simp) (by simp)
        exact this
      have happ2 : ∀ ty, (Builtin.append_ #[50, 50] ty #[.slice (some ⟨w.heap.size, 0, none⟩) 0 0, .slice (some b) 0 cap]).run Tryz.prog (w.alloc (.cells #[] 9)) = .ok (.slice (some ⟨w.heap.size, 0, none⟩) 0 0) (w.alloc (.cells #[] 9)) := by
        intro ty
        have := happ (w.alloc (.cells #[] 9)) ty
        simpa using this
      clear happ hcell
      go_enter Tryz.func128, Tryz.ntmps128
      go_wp2_with fail
      go_ret
      exact Or.inl ⟨rfl, _, _, rfl, by omega, (Keeps.refl _ _).alloc _⟩
  · have hpos : 0 < l.length := List.length_pos_iff.2 h0
    obtain ⟨b, o, rfl, hbw, hbs, _⟩ := hcell 0 hpos
    have hc2 : ∀ j (hj : j < l.length), w.cell? ⟨b, o + j, none⟩ = some (.string l[j]) := by
      intro j hj
      obtain ⟨b', o', e, _, _, h⟩ := hcell j hj
      cases e
      exact h
    have hcl : ∀ j u, (l.map Value.string)[j]? = some u → w.cell? ((⟨b, o, none⟩ : Addr).add j) = some u := by
      intro j u hj
      have hjl : j < l.length := by have := (List.getElem?_eq_some_iff.1 hj).1; simpa using this
      rw [Addr.add_mid, hc2 j hjl]
      simp [hjl] at hj
      rw [hj]
    have h1c : ∀ u ∈ l.map Value.string, u.oneCell' = true := by
      intro u hu
      obtain ⟨k, _, rfl⟩ := List.mem_map.1 hu
      rfl
    have HNL : Hid ((l.map Value.string).length = l.length * 1) := by show _ = _; simp
    have HCL : Hid (∀ j u, (l.map Value.string)[j]? = some u → w.cell? ((⟨b, o, none⟩ : Addr).add j) = some u) := hcl
    obtain ⟨vs, hvs⟩ : ∃ vs, vs = l.map Value.string := ⟨_, rfl⟩
    have HVS : Hid (vs = l.map Value.string) := hvs
    obtain ⟨len, hlen⟩ : ∃ len, len = l.length := ⟨_, rfl⟩
    have HLen : Hid (len = l.length) := hlen
    rw [← hvs] at HNL HCL h1c
    rw [← hlen] at HNL hl hcap hpos ⊢
    have hLi : (0 : Int) < (len : Int) := by omega
    have HN : Hid (l ≠ []) := h0
    clear hcl hcell hc2 hvs hlen h0
    go_enter Tryz.func128, Tryz.ntmps128
    go_wp2_with (first
      | (at_builtin; refine wpList_append_grows _ rfl _ _ 50 rfl 9 i0 (.string ByteArray.empty) 1 16 Tryz.underlying50 hi hz0 hz1 hz2 rfl (by decide) (some ⟨w.heap.size, 0, none⟩) 0 0 [] rfl (by simp) (by simp) (by simp) ⟨b, o, none⟩ len cap vs rfl HNL.out (fun j u hj => (((Keeps.refl [] w).alloc _).cell (HCL.out j u hj) (by simp))) h1c (by omega) (by omega) (by omega) ?_; intro v' w2 hown hgrow)
      | fail)
    obtain ⟨g, cp, cur, hv, hg, hgg, hcp, hmx2⟩ : ∃ g cp cur, v' = .slice (some ⟨g, 0, none⟩) len cp ∧ w.heap.size ≤ g ∧ w2.heap[g]? = some (.cells cur 9 (0, 0)) ∧ len ≤ cp ∧ cp ≤ maxLen := by
      rcases hown.2 with ⟨_, h0⟩ | ⟨g, cp, cur, hv, hb, hgg, h1, h2, _⟩
      · omega
      · exact ⟨g, cp, cur, by rw [hv, Nat.zero_add], by simp at hb; omega, hgg, by omega, h2⟩
    subst hv
    go_ret
    have hown' := hown
    simp only [Nat.zero_add, List.nil_append] at hown'
    refine Or.inr ⟨HN.out, g, cp, by rw [← HLen.out]; rfl, by rw [← HLen.out]; exact hcp, hmx2, hg, (hown.lt g rfl).2, fun k hk => ⟨?_, ?_⟩, ((Keeps.refl _ _).alloc _).grown hgrow (by simp)⟩
    · have := hown'.cellAt k (by rw [HLen.out]; omega)
      rw [this, HVS.out]
      simp [hk]
    · simp [World.frozen?, hgg]

theorem names_take {l : List W} {j : Nat} (hj : j < l.length) : (l.take (j + 1)).filter isName = (l.take j).filter isName ++ if isName l[j] = true then [l[j]] else [] := by
  rw [List.take_succ_eq_append_getElem hj, List.filter_append]
  by_cases h : isName l[j] = true <;> simp [h]
theorem names_all {l : List W} (h : noName l = -1) : l.filter isName = l := by
  unfold noName at h
  rw [List.filter_eq_self]
  intro x hx
  cases hf : l.findIdx? (fun x => !isName x) with
  | none =>
    have := List.findIdx?_eq_none_iff.1 hf x hx
    simpa using this
  | some i => rw [hf] at h; simp only at h; omega
theorem names_at {l : List W} (h : noName l ≠ -1) : ∃ i : Nat, noName l = i ∧ ∃ hi : i < l.length, (l.take (i + 1)).filter isName = l.take i := by
  unfold noName at h ⊢
  cases hf : l.findIdx? (fun x => !isName x) with
  | none => rw [hf] at h; exact absurd rfl h
  | some i =>
    rw [List.findIdx?_eq_some_iff_getElem] at hf
    obtain ⟨hi, h1, h2⟩ := hf
    refine ⟨i, rfl, hi, ?_⟩
    rw [names_take hi, if_neg (by simpa using h1), List.append_nil, List.filter_eq_self]
    intro x hx
    obtain ⟨j, hj, rfl⟩ := List.mem_iff_getElem.1 hx
    simp only [List.length_take] at hj
    have := h2 j (by omega)
    simpa using this

theorem size_setCellsW (b : Nat) : ∀ (vs : List Value) (o : Nat) (w : World), (w.setCells b o vs).heap.size = w.heap.size
  | [], _, _ => rfl
  | v :: r, o, w => by unfold World.setCells; rw [size_setCellsW b r]; simp
theorem keeps_setCells {w : World} {g : Nat} : ∀ {w1 : World} (_ : Keeps [g] w w1) (vs : List Value) (o : Nat), Keeps [g] w (w1.setCells g o vs)
  | _, h, [], _ => h
  | _, h, v :: r, o => keeps_setCells (h.setCell ⟨g, o, none⟩ (Or.inl (by simp)) v) r (o + 1)
set_option maxRecDepth 100000 in
set_option maxHeartbeats 1000000 in
theorem deleteFunc_nil {w : World} (a : Option Addr) {cap : Nat} (hmx : cap ≤ maxLen) :
    Calls Tryz.prog 127 #[.slice a 0 cap, fnV] w fun e w' => e = .returned (.slice a 0 cap) ∧ Keeps [] w w' := by
  have hws : WS w (.slice a 0 cap) [] := ⟨a, cap, rfl, by simp, hmx, fun j hj => by simp at hj⟩
  have hcall := indexFunc_any hws (by simp) (by simp)
  have HCall : Hid (Calls Tryz.prog 180 #[.slice a 0 cap, fnV] w fun e w' => e = .returned (.int .i64 (-1)) ∧ Keeps [] w w') := hcall
  unfold fnV at HCall ⊢
  clear hws hcall
  go_enter Tryz.func127, Tryz.ntmps127
  go_wp2_with fail
  refine HCall.out.mono ?_
  rintro e w1 ⟨rfl, hk1⟩
  go_wp2_with fail
  go_ret
  exact ⟨rfl, hk1⟩

set_option maxRecDepth 100000 in
set_option maxHeartbeats 1000000 in
theorem deleteFunc_any {w : World} {l : List W} {g cap : Nat} (hw : Wr w g l) (hg : g < w.heap.size) (hcap : l.length ≤ cap) (hmx : cap ≤ maxLen) (hl : l.length ≤ 5000) (h0 : 0 < l.length) (hpos : ∀ x ∈ l, 0 < ByteArray.size x) :
    Calls Tryz.prog 127 #[.slice (some ⟨g, 0, none⟩) l.length cap, fnV] w fun e w' => ∃ a n c, e = .returned (.slice a n c) ∧ WS w' (.slice a n c) (l.filter isName) ∧ Keeps [g] w w' := by
  have hws : WS w (.slice (some ⟨g, 0, none⟩) l.length cap) l := ⟨_, _, rfl, hcap, hmx, fun j hj => ⟨g, 0, rfl, by omega, hg, by rw [Nat.zero_add]; exact (hw j hj).1⟩⟩
  have hcall := indexFunc_any hws hl hpos
  have HWS : Hid (WS w (.slice (some ⟨g, 0, none⟩) l.length cap) l) := hws
  have HCall : Hid (Calls Tryz.prog 180 #[.slice (some ⟨g, 0, none⟩) l.length cap, fnV] w fun e w' => e = .returned (.int .i64 (noName l)) ∧ Keeps [] w w') := hcall
  have HNA : Hid (noName l = -1 → l.filter isName = l) := names_all
  have HNB : Hid (noName l ≠ -1 → ∃ i : Nat, noName l = i ∧ ∃ hi : i < l.length, (l.take (i + 1)).filter isName = l.take i) := names_at
  obtain ⟨nn, hnn⟩ : ∃ nn, nn = noName l := ⟨_, rfl⟩
  rw [← hnn] at HNA HNB HCall
  clear hnn hws hcall
  obtain ⟨len, hlen⟩ : ∃ len, len = l.length := ⟨_, rfl⟩
  have HLen : Hid (len = l.length) := hlen
  rw [← hlen] at hcap hl h0 HWS HCall ⊢
  clear hlen
  unfold fnV at HCall ⊢
  by_cases hn : nn = -1
  · subst hn
    have HA : Hid (l.filter isName = l) := HNA.out rfl
    clear HNA HNB
    go_enter Tryz.func127, Tryz.ntmps127
    go_wp2_with fail
    refine HCall.out.mono ?_
    rintro e w1 ⟨rfl, hk1⟩
    go_wp2_with fail
    go_ret
    exact ⟨_, _, _, rfl, by rw [HA.out]; exact HWS.out.keeps hk1, hk1.mono (by simp)⟩
  · obtain ⟨i0, rfl, hi0, hf0⟩ := HNB.out hn
    have HF0 : Hid ((l.take (i0 + 1)).filter isName = l.take i0) := hf0
    have hi0l : i0 < len := by rw [HLen.out]; exact hi0
    have q1 : ((i0 : Int) == -1) = false := beq_false_of_ne (by omega)
    have HW : Hid (Wr w g l) := hw
    have HP : Hid (∀ x ∈ l, 0 < ByteArray.size x) := hpos
    clear HNA HNB hf0 hn hw hpos
    go_enter Tryz.func127, Tryz.ntmps127
    go_wp2_with fail
    refine HCall.out.mono ?_
    rintro e w1 ⟨rfl, hk1⟩
    go_wp2_with fail
    go_loopw [5, 6] (fun x y wr => ∃ (i j : Nat) (xs : List W), i < j ∧ j ≤ len ∧ x = .int .i64 i ∧ y = .int .i64 j ∧ xs.length = l.length ∧ xs.take i = (l.take j).filter isName ∧ xs.drop j = l.drop j ∧ Wr wr g xs ∧ Keeps [g] w wr) (fun _ y _ => len - (intOf y).toNat)
    case atStart =>
      refine ⟨i0, i0 + 1, l, by omega, by omega, rfl, by go_num, rfl, HF0.out.symm, rfl, fun k hk => ?_, hk1.mono (by simp)⟩
      have := HW.out k hk
      exact ⟨hk1.cell this.1 (by simp), by rw [hk1.frozen (p := ⟨g, k, none⟩) hg (by simp)]; exact this.2⟩
    case round =>
      obtain ⟨i, j, xs, hij, hj, rfl, rfl, hxl, htk, hdr, hwr, hk⟩ := hrel
      have HWr : Hid (Wr wr g xs) := hwr
      have HT : Hid (xs.take i = (l.take j).filter isName) := htk
      have HD : Hid (xs.drop j = l.drop j) := hdr
      have HXL : Hid (xs.length = l.length) := hxl
      clear hwr htk hdr hxl
      by_cases hlt : j < len
      · have hj0 : (0 : Int) ≤ (j : Int) := by omega
        have hj1 : (j : Int) < (len : Int) := by omega
        have hi0' : (0 : Int) ≤ (i : Int) := by omega
        have hi1' : (i : Int) < (len : Int) := by omega
        have hjl : j < l.length := by rw [← HLen.out]; exact hlt
        have hjx : j < xs.length := by rw [HXL.out]; exact hjl
        have hix : i < xs.length := by omega
        have hxj : xs[j] = l[j] := by
          have h1 : (xs.drop j)[0]? = (l.drop j)[0]? := by rw [HD.out]
          simpa [hjl, hjx] using h1
        have hc := (HWr.out j hjx).1
        have hci := (HWr.out i hix).1
        have hfi := (HWr.out i hix).2
        rw [hxj] at hc
        have hp := HP.out _ (List.getElem_mem hjl)
        have hst := names_take hjl
        obtain ⟨x, hx⟩ : ∃ x, x = l[j] := ⟨_, rfl⟩
        have HX : Hid (x = l[j]) := hx
        obtain ⟨y, hy⟩ : ∃ y, y = xs[i] := ⟨_, rfl⟩
        rw [← hx] at hc hp hst
        rw [← hy] at hci
        have HSt : Hid ((l.take (j + 1)).filter isName = (l.take j).filter isName ++ if isName x = true then [x] else []) := hst
        have HCall2 : Hid (Calls Tryz.prog 129 #[.string x] wr fun e w' => e = .returned (.bool (!isName x)) ∧ wr = w') := names1_any x hp
        clear hx hp hst hxj hy
        cases hb : isName x
        · rw [hb] at HCall2 HSt
          go_wp2_with (first
            | (go_at_call 129; refine HCall2.out.mono ?_; rintro e w' ⟨rfl, rfl⟩)
            | fail)
          refine ⟨⟨i, j + 1, xs, by omega, by omega, rfl, by go_num, HXL.out, by rw [HT.out, HSt.out]; simp, ?_, HWr.out, hk⟩, by simp [intOf]; omega⟩
          rw [← List.drop_drop, HD.out, List.drop_drop]
        · rw [hb] at HCall2 HSt
          go_wp2_with (first
            | (go_at_call 129; refine HCall2.out.mono ?_; rintro e w' ⟨rfl, rfl⟩)
            | fail)
          refine ⟨⟨i + 1, j + 1, xs.set i x, by omega, by omega, by go_num, by go_num, by rw [List.length_set]; exact HXL.out, ?_, ?_, HWr.out.set hix x, hk.setCell _ (Or.inl (by simp)) _⟩, by simp [intOf]; omega⟩
          · rw [List.take_succ_eq_append_getElem (by simpa using hix), HSt.out, ← HT.out]
            simp [List.take_set]
            exact List.set_eq_of_length_le (by simp; omega)
          · rw [List.drop_set, if_pos (by omega), ← List.drop_drop, HD.out, List.drop_drop]
      · obtain rfl : j = len := by omega
        have hxs : xs.take i = l.filter isName := by rw [HT.out, HLen.out, List.take_length]
        have hix : i < xs.length := by rw [HXL.out, ← HLen.out]; exact hij
        have hxl2 : xs.length = j := by rw [HXL.out, HLen.out]
        have HXS : Hid (xs.take i = l.filter isName) := hxs
        have HXL2 : Hid (xs.length = j) := hxl2
        have hi0' : (0 : Int) ≤ (i : Int) := by omega
        have hi1' : (i : Int) ≤ (j : Int) := by omega
        have hcl : ∀ ty, (Builtin.clear_ #[50] ty #[.slice (some ⟨g, i, none⟩) (j - i) (cap - i)]).run Tryz.prog wr = .ok (.tuple #[]) (wr.setCells g i (List.replicate (j - i) (.string ByteArray.empty))) :=
          fun ty => Lib.run_clear_slice wr _ _ ty _ Tryz.underlying50 zeroStr rfl rfl g i _ _ (by omega) (fun k hk' => by rw [(HWr.out (i + k) (by omega)).1]; rfl) (fun k hk' => (HWr.out (i + k) (by omega)).2)
        clear hxs hxl2
        go_wp2_with fail
        go_ret
        have hfl : (l.filter isName).length = i := by rw [← HXS.out]; simp; omega
        refine ⟨some ⟨g, 0, none⟩, i, cap, rfl, ⟨some ⟨g, 0, none⟩, cap, by rw [hfl], by omega, hmx, fun k hk' => ⟨g, 0, rfl, ?_, ?_, ?_⟩⟩, keeps_setCells hk _ _⟩
        · have := hk.size; rw [size_setCellsW]; omega
        · have := hk.size; rw [size_setCellsW]; omega
        · have hki : k < i := by omega
          rw [Nat.zero_add, World.cell?_setCells_out g _ i wr ⟨g, k, none⟩ (fun _ _ => Or.inl hki), (HWr.out k (by omega)).1]
          have : (l.filter isName)[k] = xs[k] := by simp [← HXS.out]
          rw [this]

set_option maxRecDepth 100000 in
set_option maxHeartbeats 1000000 in
theorem names_any {w : World} {v : Value} {l : List W} (hv : WS w v l) (hl : l.length ≤ 5000) (hpos : ∀ x ∈ l, 0 < ByteArray.size x) :
    Calls Tryz.prog 65 #[v] w fun e w' => ∃ a n c, e = .returned (.slice a n c) ∧ WS w' (.slice a n c) (l.filter isName) ∧ Keeps [] w w' := by
  have hcall := cloneE_any hv hl
  obtain ⟨a, cap, rfl, hcap, hmx, _⟩ := hv
  obtain ⟨len, hlen⟩ : ∃ len, len = l.length := ⟨_, rfl⟩
  rw [← hlen] at hcall ⊢
  clear hlen
  go_enter Tryz.func65, Tryz.ntmps65
  go_wp2_with fail
  refine hcall.mono ?_
  rintro e w1 h
  clear hcall
  rcases h with ⟨rfl, a1, cap1, rfl, hc1, hk1⟩ | ⟨hne, g, cap1, rfl, hc1, hm1, hg1, hg2, hw1, hk1⟩
  · have hw : WS w1 (.slice a1 0 cap1) [] := ⟨a1, cap1, rfl, by simp, hc1, fun j hj => by simp at hj⟩
    have HW : Hid (WS w1 (.slice a1 0 cap1) []) := hw
    have hcl2 := deleteFunc_nil (w := w1) a1 hc1
    have HC2 : Hid (Calls Tryz.prog 127 #[.slice a1 0 cap1, fnV] w1 fun e w' => e = .returned (.slice a1 0 cap1) ∧ Keeps [] w1 w') := hcl2
    unfold fnV at HC2
    clear hw hcl2
    go_wp2_with fail
    refine HC2.out.mono ?_
    rintro e w2 ⟨rfl, hk2⟩
    go_wp2_with fail
    go_ret
    exact ⟨_, _, _, rfl, HW.out.keeps hk2, hk1.trans hk2⟩
  · have hcl2 := deleteFunc_any hw1 hg2 hc1 hm1 hl (List.length_pos_iff.2 hne) hpos
    obtain ⟨len1, hlen1⟩ : ∃ len1, len1 = l.length := ⟨_, rfl⟩
    rw [← hlen1] at hcl2 ⊢
    have HC2 : Hid (Calls Tryz.prog 127 #[.slice (some ⟨g, 0, none⟩) len1 cap1, fnV] w1 fun e w' => ∃ a n c, e = .returned (.slice a n c) ∧ WS w' (.slice a n c) (l.filter isName) ∧ Keeps [g] w1 w') := hcl2
    unfold fnV at HC2
    clear hcl2 hlen1 hw1
    go_wp2_with fail
    refine HC2.out.mono ?_
    rintro e w2 ⟨a2, n2, c2, rfl, hw2, hk2⟩
    have HW2 : Hid (WS w2 (.slice a2 n2 c2) (l.filter isName)) := hw2
    clear hw2
    go_wp2_with fail
    go_ret
    refine ⟨_, _, _, rfl, HW2.out, ((hk1.mono (by simp)).trans hk2).strike (fun i hi hlt => ?_)⟩
    simp at hi
    omega

end Go.Proofs.YtmgjegokkbghlaaGreatDoor
