/- The walk of unknown. -/
import Derived.Test.YtmgjegokkbghlaaGreatDoorNames
import Derived.StringKeys
namespace Go.Proofs.YtmgjegokkbghlaaGreatDoor
open Go.RowKit Go.Maps Gram Circ
set_option linter.unusedVariables false

/-- what a name is last said to be: 0, if nothing -/
def kindOf (ls : List Ln) (n : W) : Nat := ls.foldl (fun k x => if decl x = true ∧ x.name = n then x.kind else k) 0
theorem kindOf_add (ls : List Ln) (x : Ln) (n : W) : kindOf (ls ++ [x]) n = if decl x = true ∧ x.name = n then x.kind else kindOf ls n := by
  simp [kindOf, List.foldl_append]
def kindG (ls : List Ln) (v : Value) : Option Value := match v with
  | .string n => if kindOf ls n = 0 then none else some (.int .i64 (kindOf ls n : Int))
  | _ => none
theorem kindG_nil (v : Value) : kindG [] v = none := by
  cases v <;> simp [kindG, kindOf]
theorem kindG_get (ls : List Ln) (n : W) : (kindG ls (.string n)).getD (.int .i64 0) = .int .i64 (kindOf ls n : Int) := by
  unfold kindG
  simp only
  split <;> simp_all
theorem decl_iff (x : Ln) : decl x = true ↔ x.kind = 1 ∨ x.kind = 2 := by simp [decl]
theorem kindG_set {ls : List Ln} {x : Ln} (h : decl x = true) (v : Value) : setG (kindG ls) (.string x.name) (some (.int .i64 (x.kind : Int))) v = kindG (ls ++ [x]) v := by
  have hk : x.kind ≠ 0 := by have := (decl_iff x).1 h; omega
  by_cases e : v = .string x.name
  · subst e
    rw [setG_same]
    simp [kindG, kindOf_add, h, hk]
  · rw [setG_other _ _ e]
    cases v with
    | string n =>
      have hn : ¬ x.name = n := fun hh => e (by rw [hh])
      simp [kindG, kindOf_add, hn]
    | _ => rfl
theorem kindG_skip {ls : List Ln} {x : Ln} (h : ¬ decl x = true) (v : Value) : kindG ls v = kindG (ls ++ [x]) v := by
  cases v with
  | string n => simp [kindG, kindOf_add, h]
  | _ => rfl
def unkAt (ls : List Ln) (i : Nat) : Bool := ((nth ls i).kind == 3 && kindOf ls (nth ls i).name != 2) || ((lnPost (nth ls i)).filter isName).any fun x => kindOf ls x == 0

theorem lawStr : Keyed Tryz.prog 9 := string_keyed Tryz.underlying9
theorem zeroKind (w : World) : (zeroValue 137).run Tryz.prog w = .ok (.int .i64 0) w := by kernel_rfl
theorem keyStr {s : ByteArray} (hs : s.size ≤ 1000) : keyOf Tryz.prog 9 (.string s) = some (.string s.data.toList) := Go.WideMaps.keyOf_string_mk Tryz.underlying9 (Nat.le_trans hs (by decide))
theorem isName_size {x : W} (h : isName x = true) : x.size ≤ 1000 := by
  by_cases h0 : 0 < x.size
  · rw [isName_bl x h0] at h
    simp at h
    omega
  · omega

set_option maxRecDepth 100000 in
set_option maxHeartbeats 2000000 in
theorem unknown_any {w : World} {v : Value} {ls : List Ln} (hv : LV w v ls) (hp : ∀ x ∈ ls, ∀ y ∈ lnPost x, 0 < ByteArray.size y) :
    Calls Tryz.prog 29 #[v] w fun e w' => e = .returned (.int .i64 ((tells (firstAt (unkAt ls) ls.length) : Nat) : Int)) ∧ Keeps [] w w' := by
  obtain ⟨g, cap, rfl, hcap, hg, hl, hsm, hcell⟩ := hv
  have hmm := @run_makeMap Tryz.prog
  have hml : 2000000 < maxLen := by decide
  obtain ⟨len, hlen⟩ : ∃ len, len = ls.length := ⟨_, rfl⟩
  rw [← hlen] at hcap hl ⊢
  have HLen : Hid (len = ls.length) := hlen
  have HC : Hid (∀ i (hi : i < ls.length), ∃ a n c, w.cell? ⟨g, i * 4, none⟩ = some (.int .i64 (ls[i].kind : Int)) ∧ w.cell? ⟨g, i * 4 + 1, none⟩ = some (.string ls[i].name) ∧ w.cell? ⟨g, i * 4 + 2, none⟩ = some (.string ls[i].first) ∧ w.cell? ⟨g, i * 4 + 3, none⟩ = some (.slice a n c) ∧ WS w (.slice a n c) (lnPost ls[i])) := hcell
  have HS : Hid (∀ x ∈ ls, x.kind ≤ 4 ∧ x.name.size ≤ 1000 ∧ (lnPost x).length ≤ 5000) := hsm
  have HP : Hid (∀ x ∈ ls, ∀ y ∈ lnPost x, 0 < ByteArray.size y) := hp
  clear hcell hlen hsm hp
  go_enter Tryz.func29, Tryz.ntmps29
  go_wp2_with fail
  go_loopw [13] (fun x wr => ∃ j n : Nat, j ≤ len ∧ x = .int .i64 j ∧ MapIs wr Tryz.prog 9 w.heap.size n (kindG (ls.take j)) ∧ n ≤ j ∧ Keeps [] w wr) (fun x _ => len - (intOf x).toNat)
  case atStart =>
    refine ⟨0, 0, by omega, rfl, (MapIs.made w Tryz.prog 9).congr (fun x _ _ => by simp [kindG_nil]), by omega, (Keeps.refl _ _).alloc _⟩
  case round =>
    obtain ⟨j, n, hj, rfl, hm, hn, hk⟩ := hrel
    by_cases hlt : j < len
    · have hj0 : (0 : Int) ≤ (j : Int) := by omega
      have hj1 : (j : Int) < (len : Int) := by omega
      have hjl : j < ls.length := by rw [← HLen.out]; exact hlt
      obtain ⟨a, mn, mc, c0, c1, c2, c3, _⟩ := HC.out j hjl
      have htk : ls.take (j + 1) = ls.take j ++ [ls[j]] := List.take_succ_eq_append_getElem hjl
      have hsx := HS.out ls[j] (List.getElem_mem _)
      obtain ⟨x, hx⟩ : ∃ x, x = ls[j] := ⟨_, rfl⟩
      rw [← hx] at c0 c1 c2 htk hsx
      have e0 := hk.cell c0 (by simp)
      have e1 := hk.cell c1 (by simp)
      have e2 := hk.cell c2 (by simp)
      have e3 := hk.cell c3 (by simp)
      have HTK : Hid (ls.take (j + 1) = ls.take j ++ [x]) := htk
      have HM : Hid (MapIs wr Tryz.prog 9 w.heap.size n (kindG (ls.take j))) := hm
      have hlw : w.heap.size < wr.heap.size := hm.lt
      have hkey := keyStr hsx.2.1
      have HD := decl_iff x
      have HDX : Hid (decl x = true ↔ x.kind = 1 ∨ x.kind = 2) := HD
      clear htk hx c0 c1 c2 c3 hsx hm HD
      obtain ⟨L, hL⟩ : ∃ L, L = ls.take j := ⟨_, rfl⟩
      rw [← hL] at HTK HM
      clear hL
      have hput : ∀ o, ∃ w4, (Instr.mapUpdate 148 (.map (some w.heap.size)) (.string x.name) (.int .i64 (x.kind : Int))).run Tryz.prog (wr.alloc o) = .ok () w4 ∧ MapIs w4 Tryz.prog 9 w.heap.size (if (kindG L (.string x.name)).isSome then n else n + 1) (setG (kindG L) (.string x.name) (some (.int .i64 (x.kind : Int)))) ∧ (wr.alloc o).grownBy w4 (some w.heap.size) := fun o =>
        (HM.out.alloc o).update lawStr Tryz.underlying148 (by omega) hkey (.int .i64 (x.kind : Int))
      obtain ⟨w4, hr4, hm4, hg4⟩ := hput (.cells #[.int .i64 (x.kind : Int), .string x.name, .string x.first, .slice a mn mc] 139)
      have HM4 : Hid (MapIs w4 Tryz.prog 9 w.heap.size (if (kindG L (.string x.name)).isSome then n else n + 1) (setG (kindG L) (.string x.name) (some (.int .i64 (x.kind : Int))))) := hm4
      clear hput hm4 hkey
      by_cases k1 : x.kind = 1
      · have q1 : ((x.kind : Int) == 1) = true := by simp [k1]
        have hdx : decl x = true := HDX.out.2 (Or.inl k1)
        have HDd : Hid (decl x = true) := hdx
        clear k1 hdx
        go_wp2_with fail
        refine ⟨⟨j + 1, _, by omega, by go_num, (by rw [HTK.out]; exact HM4.out.congr (fun v _ _ => kindG_set HDd.out v)), by split <;> omega, ?_⟩, by simp [intOf]; omega⟩
        exact ((hk.trans ((Keeps.refl [] wr).alloc _)).mono (by simp)).grown hg4 (fun k e => by cases e; right; omega)
      · have q1 : ((x.kind : Int) == 1) = false := beq_false_of_ne (by omega)
        by_cases k2 : x.kind = 2
        · have q2 : ((x.kind : Int) == 2) = true := by simp [k2]
          have hdx : decl x = true := HDX.out.2 (Or.inr k2)
          have HDd : Hid (decl x = true) := hdx
          clear k1 k2 hdx
          go_wp2_with fail
          refine ⟨⟨j + 1, _, by omega, by go_num, (by rw [HTK.out]; exact HM4.out.congr (fun v _ _ => kindG_set HDd.out v)), by split <;> omega, ?_⟩, by simp [intOf]; omega⟩
          exact ((hk.trans ((Keeps.refl [] wr).alloc _)).mono (by simp)).grown hg4 (fun k e => by cases e; right; omega)
        · have q2 : ((x.kind : Int) == 2) = false := beq_false_of_ne (by omega)
          have hdx : ¬ decl x = true := fun h => by have := HDX.out.1 h; omega
          have HDd : Hid (¬ decl x = true) := hdx
          clear k1 k2 hdx hr4 hg4 HM4
          go_wp2_with fail
          exact ⟨⟨j + 1, n, by omega, by go_num, (by rw [HTK.out]; exact (HM.out.alloc _).congr (fun v _ _ => kindG_skip HDd.out v)), by omega, hk.trans ((Keeps.refl [] wr).alloc _)⟩, by simp [intOf]; omega⟩
    · obtain rfl : j = len := by omega
      have hm2 : MapIs wr Tryz.prog 9 w.heap.size n (kindG ls) := by
        have := hm
        rw [HLen.out, List.take_length] at this
        exact this
      have HM : Hid (MapIs wr Tryz.prog 9 w.heap.size n (kindG ls)) := hm2
      clear hm hm2
      obtain ⟨wq, hwq⟩ : ∃ wq, wq = wr := ⟨_, rfl⟩
      rw [← hwq] at HM hk ⊢
      clear hwq
      go_wp2_with fail
      go_loopw [33] (fun x wr => ∃ i : Nat, i ≤ j ∧ x = .int .i64 i ∧ (∀ k, k < i → unkAt ls k = false) ∧ Keeps [] wq wr) (fun x _ => j - (intOf x).toNat)
      case atStart => exact ⟨0, by omega, rfl, fun k hk => by omega, Keeps.refl _ _⟩
      case round =>
        obtain ⟨i, hi, rfl, hno, hk2⟩ := hrel
        by_cases hlt2 : i < j
        · have hi0 : (0 : Int) ≤ (i : Int) := by omega
          have hi1 : (i : Int) < (j : Int) := by omega
          have hil : i < ls.length := by rw [← HLen.out]; exact hlt2
          obtain ⟨a, mn, mc, c0, c1, c2, c3, c4⟩ := HC.out i hil
          have hsx := HS.out ls[i] (List.getElem_mem _)
          have hpx := HP.out ls[i] (List.getElem_mem _)
          have hua : unkAt ls i = ((ls[i].kind == 3 && kindOf ls ls[i].name != 2) || ((lnPost ls[i]).filter isName).any fun x => kindOf ls x == 0) := by unfold unkAt; rw [nth_eq hil]
          obtain ⟨x, hx⟩ : ∃ x, x = ls[i] := ⟨_, rfl⟩
          rw [← hx] at c0 c1 c2 c4 hsx hpx hua
          have hkk := hk.trans hk2
          have e0 := hkk.cell c0 (by simp)
          have e1 := hkk.cell c1 (by simp)
          have e2 := hkk.cell c2 (by simp)
          have e3 := hkk.cell c3 (by simp)
          have hkey := keyStr hsx.2.1
          have HU : Hid (unkAt ls i = ((x.kind == 3 && kindOf ls x.name != 2) || ((lnPost x).filter isName).any fun x => kindOf ls x == 0)) := hua
          have HNo : Hid (∀ k, k < i → unkAt ls k = false) := hno
          have HMR : Hid (MapIs wr Tryz.prog 9 w.heap.size n (kindG ls)) := HM.out.keeps hk2 (by simp)
          have HNC : Hid (∀ o, Calls Tryz.prog 65 #[.slice a mn mc] (wr.alloc o) fun e w' => ∃ a n c, e = .returned (.slice a n c) ∧ WS w' (.slice a n c) ((lnPost x).filter isName) ∧ Keeps [] (wr.alloc o) w') := fun o =>
            names_any (c4.keeps (hkk.trans ((Keeps.refl [] wr).alloc o))) hsx.2.2 hpx
          have hlook : ∀ o, (Instr.lookup 148 (.map (some w.heap.size)) (.string x.name) false).run Tryz.prog (wr.alloc o) = .ok (.int .i64 (kindOf ls x.name : Int)) (wr.alloc o) := fun o => by
            rw [((HMR.out.alloc o).look lawStr Tryz.underlying148 (zeroKind _) hkey).2, kindG_get]
          obtain ⟨kx, hkx⟩ : ∃ kx, kx = kindOf ls x.name := ⟨_, rfl⟩
          rw [← hkx] at hlook HU
          obtain ⟨NS, hNS⟩ : ∃ NS, NS = (lnPost x).filter isName := ⟨_, rfl⟩
          rw [← hNS] at HU HNC
          have HNN : Hid (∀ y ∈ NS, isName y = true) := by
            intro y hy
            rw [hNS] at hy
            exact (List.mem_filter.1 hy).2
          have hNl : NS.length ≤ 5000 := by rw [hNS]; exact Nat.le_trans (List.length_filter_le _ _) hsx.2.2
          clear hua hx hno c0 c1 c2 c3 c4 hsx hpx hkx hkey hNS
          have HGo : Hid (∀ wz, Keeps [] wr wz → unkAt ls i = false → ∃ i2 : Nat, i2 ≤ j ∧ Value.int .i64 ((i : Int) + 1) = .int .i64 i2 ∧ (∀ k, k < i2 → unkAt ls k = false) ∧ Keeps [] wq wz) := by
            intro wz hkz hf
            refine ⟨i + 1, by omega, by go_num, fun k hk' => ?_, hk2.trans hkz⟩
            by_cases e : k = i
            · subst e; exact hf
            · exact HNo.out k (by omega)
          have HEnd : Hid (∀ wz, Keeps [] wr wz → unkAt ls i = true → Ending.returned (.int .i64 ((i : Int) + 1)) = .returned (.int .i64 ((tells (firstAt (unkAt ls) j) : Nat) : Int)) ∧ Keeps [] w wz) := by
            intro wz hkz ht
            refine ⟨?_, (hk.trans hk2).trans hkz⟩
            rw [HLen.out, firstAt_some hil ht HNo.out]
            exact ret_int (by simp [tells])
          by_cases k3 : x.kind = 3
          · have q3 : ((x.kind : Int) == 3) = true := by simp [k3]
            by_cases h2 : kx = 2
            · have r2 : ((kx : Int) != 2) = false := by simp [h2]
              have HUA : Hid (unkAt ls i = NS.any fun x => kindOf ls x == 0) := by show _ = _; rw [HU.out]; simp [h2]
              clear k3 h2
              go_wp2_with fail
              refine (HNC.out _).mono ?_
              rintro e w2 ⟨a2, n2, m2, rfl, hws2, hk3⟩
              clear HNC
              obtain ⟨a3, cap3, e3, hcap3, hmx3, hcell3⟩ := hws2
              obtain ⟨rfl, rfl, rfl⟩ : a2 = a3 ∧ n2 = NS.length ∧ m2 = cap3 := by simpa using e3
              clear e3
              obtain ⟨nl, hnl⟩ : ∃ nl, nl = NS.length := ⟨_, rfl⟩
              have HNL : Hid (nl = NS.length) := hnl
              have HC3 : Hid (∀ j (hj : j < NS.length), ∃ b o, a2 = some ⟨b, o, none⟩ ∧ b ≠ w2.heap.size ∧ b < w2.heap.size ∧ w2.cell? ⟨b, o + j, none⟩ = some (.string NS[j])) := hcell3
              rw [← hnl] at hcap3 hNl ⊢
              clear hnl hcell3
              have hkw2 : Keeps [] wr w2 := ((Keeps.refl [] wr).alloc _).trans hk3
              go_wp2_with fail
              go_loopw [54] (fun y wz => ∃ t : Nat, t ≤ nl ∧ y = .int .i64 t ∧ (∀ k (hk : k < NS.length), k < t → kindOf ls NS[k] ≠ 0) ∧ Keeps [] w2 wz) (fun y _ => nl - (intOf y).toNat)
              case atStart => exact ⟨0, by omega, rfl, fun k _ hk => by omega, Keeps.refl _ _⟩
              case round =>
                obtain ⟨t, ht, rfl, hall, hkz⟩ := hrel
                have HA : Hid (∀ k (hk : k < NS.length), k < t → kindOf ls NS[k] ≠ 0) := hall
                clear hall
                by_cases hlt3 : t < nl
                · have ht0 : (0 : Int) ≤ (t : Int) := by omega
                  have ht1 : (t : Int) < (nl : Int) := by omega
                  have htl : t < NS.length := by rw [← HNL.out]; exact hlt3
                  obtain ⟨b5, o5, rfl, _, _, d0⟩ := HC3.out t htl
                  have d1 := hkz.cell d0 (by simp)
                  have hnm := HNN.out _ (List.getElem_mem htl)
                  have hkey5 := keyStr (isName_size hnm)
                  have hin : NS[t] ∈ NS := List.getElem_mem htl
                  obtain ⟨y, hy⟩ : ∃ y, y = NS[t] := ⟨_, rfl⟩
                  have HY : Hid (y = NS[t]) := hy
                  rw [← hy] at d1 hkey5 hin
                  have hlook5 : (Instr.lookup 148 (.map (some w.heap.size)) (.string y) false).run Tryz.prog wr = .ok (.int .i64 (kindOf ls y : Int)) wr := by
                    rw [((HMR.out.keeps (hkw2.trans hkz) (by simp)).look lawStr Tryz.underlying148 (zeroKind _) hkey5).2, kindG_get]
                  have HIn : Hid (y ∈ NS) := hin
                  obtain ⟨ky, hky⟩ : ∃ ky, ky = kindOf ls y := ⟨_, rfl⟩
                  rw [← hky] at hlook5
                  have HKY : Hid (ky = kindOf ls y) := hky
                  clear hnm hy hkey5 d0 hin hky hlook
                  by_cases k0 : ky = 0
                  · have r0 : ((ky : Int) == 0) = true := by simp [k0]
                    have HT : Hid (unkAt ls i = true) := by
                      show _ = _
                      rw [HUA.out, List.any_eq_true]
                      exact ⟨y, HIn.out, by rw [← HKY.out, k0]; rfl⟩
                    clear k0
                    go_wp2_with fail
                    go_ret
                    exact HEnd.out _ (hkw2.trans hkz) HT.out
                  · have r0 : ((ky : Int) == 0) = false := beq_false_of_ne (by omega)
                    go_wp2_with fail
                    refine ⟨⟨t + 1, by omega, by go_num, fun k hk' h => ?_, hkz⟩, by simp [intOf]; omega⟩
                    by_cases e : k = t
                    · subst e; rw [← HY.out, ← HKY.out]; exact k0
                    · exact HA.out k hk' (by omega)
                · obtain rfl : t = nl := by omega
                  have HF : Hid (unkAt ls i = false) := by
                    show _ = _
                    rw [HUA.out, List.any_eq_false]
                    intro y hy
                    obtain ⟨k, hk', rfl⟩ := List.mem_iff_getElem.1 hy
                    have := HA.out k hk' (by rw [HNL.out]; exact hk')
                    simpa using this
                  go_wp2_with fail
                  exact ⟨HGo.out _ (hkw2.trans hkz) HF.out, by simp [intOf]; omega⟩
            · have r2 : ((kx : Int) != 2) = true := bne_iff_ne.2 (by omega)
              have HT : Hid (unkAt ls i = true) := by show _ = _; rw [HU.out]; simp [k3, h2]
              clear k3 h2
              go_wp2_with fail
              go_ret
              exact HEnd.out _ ((Keeps.refl _ _).alloc _) HT.out
          · have q3 : ((x.kind : Int) == 3) = false := beq_false_of_ne (by omega)
            have HUA : Hid (unkAt ls i = NS.any fun x => kindOf ls x == 0) := by show _ = _; rw [HU.out]; simp [k3]
            clear k3
            go_wp2_with fail
            refine (HNC.out _).mono ?_
            rintro e w2 ⟨a2, n2, m2, rfl, hws2, hk3⟩
            clear HNC
            obtain ⟨a3, cap3, e3, hcap3, hmx3, hcell3⟩ := hws2
            obtain ⟨rfl, rfl, rfl⟩ : a2 = a3 ∧ n2 = NS.length ∧ m2 = cap3 := by simpa using e3
            clear e3
            obtain ⟨nl, hnl⟩ : ∃ nl, nl = NS.length := ⟨_, rfl⟩
            have HNL : Hid (nl = NS.length) := hnl
            have HC3 : Hid (∀ j (hj : j < NS.length), ∃ b o, a2 = some ⟨b, o, none⟩ ∧ b ≠ w2.heap.size ∧ b < w2.heap.size ∧ w2.cell? ⟨b, o + j, none⟩ = some (.string NS[j])) := hcell3
            rw [← hnl] at hcap3 hNl ⊢
            clear hnl hcell3
            have hkw2 : Keeps [] wr w2 := ((Keeps.refl [] wr).alloc _).trans hk3
            go_wp2_with fail
            go_loopw [54] (fun y wz => ∃ t : Nat, t ≤ nl ∧ y = .int .i64 t ∧ (∀ k (hk : k < NS.length), k < t → kindOf ls NS[k] ≠ 0) ∧ Keeps [] w2 wz) (fun y _ => nl - (intOf y).toNat)
            case atStart => exact ⟨0, by omega, rfl, fun k _ hk => by omega, Keeps.refl _ _⟩
            case round =>
              obtain ⟨t, ht, rfl, hall, hkz⟩ := hrel
              have HA : Hid (∀ k (hk : k < NS.length), k < t → kindOf ls NS[k] ≠ 0) := hall
              clear hall
              by_cases hlt3 : t < nl
              · have ht0 : (0 : Int) ≤ (t : Int) := by omega
                have ht1 : (t : Int) < (nl : Int) := by omega
                have htl : t < NS.length := by rw [← HNL.out]; exact hlt3
                obtain ⟨b5, o5, rfl, _, _, d0⟩ := HC3.out t htl
                have d1 := hkz.cell d0 (by simp)
                have hnm := HNN.out _ (List.getElem_mem htl)
                have hkey5 := keyStr (isName_size hnm)
                have hin : NS[t] ∈ NS := List.getElem_mem htl
                obtain ⟨y, hy⟩ : ∃ y, y = NS[t] := ⟨_, rfl⟩
                have HY : Hid (y = NS[t]) := hy
                rw [← hy] at d1 hkey5 hin
                have hlook5 : (Instr.lookup 148 (.map (some w.heap.size)) (.string y) false).run Tryz.prog wr = .ok (.int .i64 (kindOf ls y : Int)) wr := by
                  rw [((HMR.out.keeps (hkw2.trans hkz) (by simp)).look lawStr Tryz.underlying148 (zeroKind _) hkey5).2, kindG_get]
                have HIn : Hid (y ∈ NS) := hin
                obtain ⟨ky, hky⟩ : ∃ ky, ky = kindOf ls y := ⟨_, rfl⟩
                rw [← hky] at hlook5
                have HKY : Hid (ky = kindOf ls y) := hky
                clear hnm hy hkey5 d0 hin hky hlook
                by_cases k0 : ky = 0
                · have r0 : ((ky : Int) == 0) = true := by simp [k0]
                  have HT : Hid (unkAt ls i = true) := by
                    show _ = _
                    rw [HUA.out, List.any_eq_true]
                    exact ⟨y, HIn.out, by rw [← HKY.out, k0]; rfl⟩
                  clear k0
                  go_wp2_with fail
                  go_ret
                  exact HEnd.out _ (hkw2.trans hkz) HT.out
                · have r0 : ((ky : Int) == 0) = false := beq_false_of_ne (by omega)
                  go_wp2_with fail
                  refine ⟨⟨t + 1, by omega, by go_num, fun k hk' h => ?_, hkz⟩, by simp [intOf]; omega⟩
                  by_cases e : k = t
                  · subst e; rw [← HY.out, ← HKY.out]; exact k0
                  · exact HA.out k hk' (by omega)
              · obtain rfl : t = nl := by omega
                have HF : Hid (unkAt ls i = false) := by
                  show _ = _
                  rw [HUA.out, List.any_eq_false]
                  intro y hy
                  obtain ⟨k, hk', rfl⟩ := List.mem_iff_getElem.1 hy
                  have := HA.out k hk' (by rw [HNL.out]; exact hk')
                  simpa using this
                go_wp2_with fail
                exact ⟨HGo.out _ (hkw2.trans hkz) HF.out, by simp [intOf]; omega⟩
        · obtain rfl : i = j := by omega
          have HNo : Hid (∀ k, k < i → unkAt ls k = false) := hno
          clear hno
          go_wp2_with fail
          go_ret
          refine ⟨?_, hk.trans hk2⟩
          rw [firstAt_none HNo.out]
          rfl

end Go.Proofs.YtmgjegokkbghlaaGreatDoor
