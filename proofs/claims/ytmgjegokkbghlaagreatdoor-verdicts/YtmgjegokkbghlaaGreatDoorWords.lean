/- The walks over a line's text: TrimLeft, ahead, isName, isWord, split. -/
import Derived.Test.YtmgjegokkbghlaaGreatDoorRows
import Derived.Test.YtmgjegokkbghlaaGreatDoorCirc
import Derived.Test.YtmgjegokkbghlaaGreatDoorHeap
import Derived.WalkKit
import Derived.WalkSpells
import Derived.Lib.Bytealg
import Derived.Lib.IndexEntry
import Derived.Deep.QuietTactic
import Derived.BigQuiet
import Derived.Maps.AppendAt
import Derived.Lib.Index
namespace Go.Proofs.YtmgjegokkbghlaaGreatDoor
open Go.RowKit Go.Maps Gram Circ
set_option linter.unusedVariables false

/-! ### strings in the walk -/
theorem beq_bl (s t : ByteArray) : (s.toList == t.toList) = decide (s = t) := by
  by_cases h : s = t
  · subst h; simp
  · have hne : s.toList ≠ t.toList := fun e => h (bl_ext (by rw [ByteArray.toList_eq, ByteArray.toList_eq] at e; exact e))
    simp [h, hne]
theorem beq_lit (s : ByteArray) (l : List UInt8) : (s.toList == l) = decide (s = mk l) := by
  rw [← beq_bl s (mk l), ByteArray.toList_eq (mk l)]; rfl
theorem empty_ne {s : ByteArray} (h : s ≠ ⟨#[]⟩) : s.toList.isEmpty = false := by
  rw [ByteArray.toList_eq]
  cases hb : s.data.toList with
  | nil => exact absurd (bl_ext (t := ⟨#[]⟩) hb) h
  | cons x r => rfl
theorem ret_str {a b : ByteArray} (h : a = b) : Ending.returned (.string a) = .returned (.string b) := by rw [h]
theorem ret_bool {a b : Bool} (h : a = b) : Ending.returned (.bool a) = .returned (.bool b) := by rw [h]

set_option maxRecDepth 100000 in
set_option maxHeartbeats 400000 in
theorem trimByte_any {w : World} (s : ByteArray) :
    Calls Tryz.prog 193 #[.string s, .int .u8 32] w fun e w' => e = .returned (.string (mk ((bl s).dropWhile (· == 32)))) ∧ w = w' := by
  go_enter Tryz.func193, Tryz.ntmps193
  go_wp2
  go_loop [0] (fun v => ∃ r : ByteArray, v = .string r ∧ r.size ≤ s.size ∧ (bl r).dropWhile (· == 32) = (bl s).dropWhile (· == 32)) (fun v => match v with | .string r => r.size | _ => 0)
  case atStart => exact ⟨s, rfl, by omega, rfl⟩
  case round =>
    obtain ⟨r, rfl, hr, hd⟩ := hrel
    by_cases h0 : r.size = 0
    · have hn : bl r = [] := by rw [← List.length_eq_zero_iff, bl_len]; exact h0
      have HD : Hid ((bl r).dropWhile (· == 32) = (bl s).dropWhile (· == 32)) := hd
      clear hd
      go_wp2
      go_ret
      refine ⟨ret_str ?_, rfl⟩
      rw [← HD.out, hn]
      exact bl_ext hn
    · have hc := bl_cons r (by omega)
      have HD : Hid ((bl r).dropWhile (· == 32) = (bl s).dropWhile (· == 32)) := hd
      have HC : Hid (bl r = r[0] :: (bl r).drop 1) := hc
      clear hd hc
      go_wp2
      · have he : r[0] = 32 := by
          have : (r[0].toNat : Int) = 32 := by simpa using ‹(_ == (32 : Int)) = true›
          exact UInt8.toNat_inj.1 (by have : r[0].toNat = 32 := by omega
                                      simpa using this)
        refine ⟨⟨_, rfl, by simp [ByteArray.size_extract]; omega, ?_⟩, by simp [ByteArray.size_extract]; omega⟩
        rw [bl_extract, ← HD.out, ← bl_len, List.take_length]
        conv => rhs; rw [HC.out, List.dropWhile_cons, he]
        simp
      · have he : r[0] ≠ 32 := by
          have h' : (r[0].toNat : Int) ≠ 32 := by simpa using ‹(_ == (32 : Int)) = false›
          intro e
          rw [e] at h'
          exact h' rfl
        go_ret
        refine ⟨ret_str ?_, rfl⟩
        rw [← HD.out, HC.out, List.dropWhile_cons, if_neg (by simpa using he), ← HC.out]
        exact (mk_bl r).symm

set_option maxRecDepth 100000 in
set_option maxHeartbeats 400000 in
theorem trim_any {w : World} (s : ByteArray) :
    Calls Tryz.prog 175 #[.string s, .string ⟨#[32]⟩] w fun e w' => e = .returned (.string (mk ((bl s).dropWhile (· == 32)))) ∧ w = w' := by
  by_cases h : s = ⟨#[]⟩
  · subst h
    go_enter Tryz.func175, Tryz.ntmps175
    go_wp2_with fail
    go_ret
    exact ⟨rfl, rfl⟩
  · have e : s.toList.isEmpty = false := empty_ne h
    clear h
    go_enter Tryz.func175, Tryz.ntmps175
    go_wp2_with (first | (go_at_call 193; refine (trimByte_any s).mono ?_; rintro e w' ⟨rfl, rfl⟩))
    go_ret
    exact ⟨rfl, rfl⟩

/-! ### letters and digits -/
theorem letter_eq (c : UInt8) : letter c = (decide ((97 : Int) ≤ (c.toNat : Int)) && decide ((c.toNat : Int) ≤ 122)) := by
  unfold letter
  rw [Bool.eq_iff_iff]
  simp [UInt8.le_iff_toNat_le]
  omega
theorem digit_eq (c : UInt8) : digit c = (decide ((48 : Int) ≤ (c.toNat : Int)) && decide ((c.toNat : Int) ≤ 57)) := by
  unfold digit
  rw [Bool.eq_iff_iff]
  simp [UInt8.le_iff_toNat_le]
  omega

set_option maxRecDepth 100000 in
theorem isLetter_any {w : World} (c : UInt8) :
    Calls Tryz.prog 181 #[.int .u8 (c.toNat : Int)] w fun e w' => e = .returned (.bool (letter c)) ∧ w = w' := by
  have hl := letter_eq c
  have HL : Hid (letter c = (decide ((97 : Int) ≤ (c.toNat : Int)) && decide ((c.toNat : Int) ≤ 122))) := hl
  clear hl
  go_enter Tryz.func181, Tryz.ntmps181
  go_wp2
  all_goals go_ret
  all_goals refine ⟨ret_bool ?_, rfl⟩
  all_goals rw [HL.out]
  all_goals (try simp_all)
  all_goals omega
set_option maxRecDepth 100000 in
theorem isDigit_any {w : World} (c : UInt8) :
    Calls Tryz.prog 197 #[.int .u8 (c.toNat : Int)] w fun e w' => e = .returned (.bool (digit c)) ∧ w = w' := by
  have hl := digit_eq c
  have HL : Hid (digit c = (decide ((48 : Int) ≤ (c.toNat : Int)) && decide ((c.toNat : Int) ≤ 57))) := hl
  clear hl
  go_enter Tryz.func197, Tryz.ntmps197
  go_wp2
  all_goals go_ret
  all_goals refine ⟨ret_bool ?_, rfl⟩
  all_goals rw [HL.out]
  all_goals (try simp_all)
  all_goals omega

theorem isName_bl (s : ByteArray) (h : 0 < s.size) : isName s = (letter s[0] && decide (s.size ≤ 8)) := by
  have hc := bl_cons s h
  unfold bl at hc
  unfold isName
  rw [hc]

set_option maxRecDepth 100000 in
set_option maxHeartbeats 400000 in
theorem isName_any {w : World} (s : ByteArray) (h : 0 < s.size) :
    Calls Tryz.prog 130 #[.string s] w fun e w' => e = .returned (.bool (isName s)) ∧ w = w' := by
  have HL : Hid (isName s = (letter s[0] && decide (s.size ≤ 8))) := isName_bl s h
  cases hl : letter s[0]
  all_goals
    have HB : Hid (letter s[0] = _) := hl
    clear hl
    go_enter Tryz.func130, Tryz.ntmps130
    go_wp2_with (first | (go_at_call 181; refine (isLetter_any s[0]).mono ?_; rintro e w' ⟨rfl, rfl⟩; rw [HB.out]))
    all_goals go_ret
    all_goals refine ⟨ret_bool ?_, rfl⟩
    all_goals rw [HL.out, HB.out]
    all_goals (try simp_all)
    all_goals omega

theorem ahead_end {s : ByteArray} {k m : Nat} (h : ((bl s).takeWhile an).length = k) (hm : m = max k 1) : s.extract 0 m = mk (aheadL (bl s)) := by
  refine bl_ext ?_
  rw [bl_extract, bl_mk, aheadL, h, ← hm]
  rfl

set_option maxRecDepth 100000 in
set_option maxHeartbeats 1000000 in
theorem ahead_any {w : World} (s : ByteArray) (h1 : 1 ≤ s.size) (hs : s.size ≤ 1000000) :
    Calls Tryz.prog 176 #[.string s] w fun e w' => e = .returned (.string (mk (aheadL (bl s)))) ∧ w = w' := by
  have hl := bl_len s
  have htw := tw_le (bl s)
  go_enter Tryz.func176, Tryz.ntmps176
  go_wp2_with fail
  go_loop [3] (fun v => ∃ k : Nat, v = .int .i64 k ∧ k ≤ ((bl s).takeWhile an).length) (fun v => s.size - (intOf v).toNat)
  case atStart => exact ⟨0, rfl, by omega⟩
  case round =>
    obtain ⟨k, rfl, hk⟩ := hrel
    by_cases hlt : k < s.size
    · have hat := tw_at (bl s) k (by omega) hk
      rw [bl_get s k hlt] at hat
      have HA : Hid ((an s[k] = true → k + 1 ≤ ((bl s).takeWhile an).length) ∧ (an s[k] = false → ((bl s).takeWhile an).length = k)) := hat
      clear hat
      cases hc : letter s[k] <;> cases hd : digit s[k]
      all_goals
        have HC : Hid (letter s[k] = _) := hc
        have HD : Hid (digit s[k] = _) := hd
        clear hc hd
        go_wp2_with (first
          | (go_at_call 181; refine (isLetter_any s[k]).mono ?_; rintro e w' ⟨rfl, rfl⟩; rw [HC.out])
          | (go_at_call 197; refine (isDigit_any s[k]).mono ?_; rintro e w' ⟨rfl, rfl⟩; rw [HD.out]))
      · go_ret
        refine ⟨ret_str (ahead_end (HA.out.2 (by simp [an, HC.out, HD.out])) ?_), rfl⟩
        omega
      · go_ret
        refine ⟨ret_str (ahead_end (HA.out.2 (by simp [an, HC.out, HD.out])) ?_), rfl⟩
        omega
      all_goals exact ⟨⟨k + 1, by go_num, HA.out.1 (by simp [an, HC.out, HD.out])⟩, by simp [intOf]; omega⟩
    · have e : k = s.size := by omega
      have ht : ((bl s).takeWhile an).length = k := by omega
      have HT : Hid (((bl s).takeWhile an).length = k) := ht
      clear e ht
      go_wp2_with fail
      all_goals go_ret
      all_goals refine ⟨ret_str (ahead_end HT.out ?_), rfl⟩
      all_goals omega

/-! ### a sign among the signs -/
set_option maxRecDepth 100000 in
set_option maxHeartbeats 1000000 in
theorem indexByte_any {w : World} (s : ByteArray) (c : Int) :
    Calls Tryz.prog 201 #[.string s, .int .u8 c] w fun e w' => e = .returned (.int .i64 (Lib.indexByte (bl s) c.toNat.toUInt8)) ∧ w = w' := by
  go_enter Tryz.func201, Tryz.ntmps201
  go_wp2
  rw [run_callFunc_extern Tryz.func210 (by kernel_rfl) (by kernel_rfl) (by kernel_rfl) (e := Extern.BytealgIndexByte.indexByte) (by kernel_rfl), Lib.run_indexByteString]
  simp only [Result.andThen]
  rw [Oper.upon_value]
  go_wp2
  go_ret
  exact ⟨rfl, rfl⟩

theorem indexByte_not : ∀ {l : List UInt8} {c : UInt8}, c ∉ l → Lib.indexByte l c = -1
  | [], c, _ => rfl
  | b :: l, c, h => by
    have h1 : b ≠ c := fun e => h (by simp [e])
    have h2 : c ∉ l := fun e => h (by simp [e])
    simp [Lib.indexByte, h1, indexByte_not h2]
theorem indexByte_none {w : World} (s : ByteArray) (c : UInt8) (h : c ∉ bl s) :
    Calls Tryz.prog 201 #[.string s, .int .u8 (c.toNat : Int)] w fun e w' => e = .returned (.int .i64 (-1)) ∧ w = w' := by
  refine (indexByte_any s _).mono ?_
  rintro e w' ⟨rfl, rfl⟩
  rw [show (c.toNat : Int).toNat.toUInt8 = c from by simp, indexByte_not h]
  exact ⟨rfl, rfl⟩
theorem ext_not {c : UInt8} (h : c ∉ ([61, 63, 33, 38, 94, 124, 40, 41] : List UInt8)) (a b : Nat) : c ∉ bl ((⟨#[61, 63, 33, 38, 94, 124, 40, 41]⟩ : ByteArray).extract a b) := by
  rw [bl_extract]
  exact fun hm => h (List.mem_of_mem_take (List.mem_of_mem_drop hm))

set_option maxRecDepth 100000 in
set_option maxHeartbeats 1000000 in
theorem index_one {w : World} (s : ByteArray) (c : UInt8) :
    Calls Tryz.prog 192 #[.string s, .string (mk [c])] w fun e w' => e = .returned (.int .i64 (Lib.indexByte (bl s) c)) ∧ w = w' := by
  unfold mk
  go_enter Tryz.func192, Tryz.ntmps192
  go_wp2_with (first | (go_at_call 201; refine (indexByte_any s _).mono ?_; rintro e w' ⟨rfl, rfl⟩))
  · rename_i h
    go_ret
    have hb := beq_lit s [c]
    rw [Bool.beq_comm] at hb
    have e : s = mk [c] := of_decide_eq_true (hb.symm.trans h)
    subst e
    exact ⟨by simp [bl_mk, Lib.indexByte], rfl⟩
  · go_ret
    exact ⟨by simp; rfl, rfl⟩

theorem index_not : ∀ {l r : List UInt8} {c : UInt8}, c ∉ l → Lib.index l (c :: r) = -1
  | [], r, c, _ => rfl
  | b :: l, r, c, h => by
    have h1 : c ≠ b := fun e => h (by simp [e])
    have h2 : c ∉ l := fun e => h (by simp [e])
    simp [Lib.index, List.isPrefixOf, h1, index_not h2]
theorem signs_an {c : UInt8} (h : c ∈ ([61, 63, 33, 38, 94, 124, 40, 41] : List UInt8)) : an c = false ∧ sign c = true ∧ decide (0 ≤ Lib.indexByte [61, 63, 33, 38, 94, 124, 40, 41] c) = true := by
  simp only [List.mem_cons, List.not_mem_nil, or_false] at h
  rcases h with rfl | rfl | rfl | rfl | rfl | rfl | rfl | rfl <;> decide
theorem sign_iff (c : UInt8) : decide (0 ≤ Lib.indexByte [61, 63, 33, 38, 94, 124, 40, 41] c) = sign c := by
  by_cases h : c ∈ ([61, 63, 33, 38, 94, 124, 40, 41] : List UInt8)
  · rw [(signs_an h).2.1, (signs_an h).2.2]
  · rw [indexByte_not h]
    simp only [List.mem_cons, List.not_mem_nil, or_false, not_or] at h
    simp [sign, h]
/-- what is said of a variable of the library's: it holds a number -/
def Glob (w : World) : Prop := ∃ m : Int, w.cell? ⟨2, 0, none⟩ = some (.int .i64 m)
theorem globIs : Tryz.prog.globals.findIdx? (·.name == "internal/bytealg.MaxLen") = some 2 := by kernel_rfl

set_option maxRecDepth 100000 in
set_option maxHeartbeats 1000000 in
theorem index_no {w : World} (hG : Glob w) (p : ByteArray) (h2 : 2 ≤ p.size) (ha : an p[0] = true) :
    Calls Tryz.prog 192 #[.string ⟨#[61, 63, 33, 38, 94, 124, 40, 41]⟩, .string p] w fun e w' => e = .returned (.int .i64 (-1)) ∧ w = w' := by
  obtain ⟨m, hm⟩ := hG
  have hni : p[0] ∉ ([61, 63, 33, 38, 94, 124, 40, 41] : List UInt8) := fun h => by
    rw [(signs_an h).1] at ha; cases ha
  have hpne : p ≠ mk [61, 63, 33, 38, 94, 124, 40, 41] := fun e => by
    subst e
    exact absurd ha (by show ¬ an 61 = true; decide)
  have he : (p.toList == [61, 63, 33, 38, 94, 124, 40, 41]) = false := by rw [beq_lit]; simpa using hpne
  have he0 : ((p.size : Int) == 0) = false := beq_false_of_ne (by omega)
  have he1 : ((p.size : Int) == 1) = false := beq_false_of_ne (by omega)
  have hen : ¬ p = ByteArray.empty := fun e => by subst e; exact absurd h2 (by decide)
  have HN : Hid (p[0] ∉ ([61, 63, 33, 38, 94, 124, 40, 41] : List UInt8)) := hni
  clear hni hpne
  by_cases h8 : 8 ≤ p.size
  · go_enter Tryz.func192, Tryz.ntmps192
    go_wp2_with fail
    all_goals go_ret
    all_goals exact ⟨rfl, rfl⟩
  · by_cases hml : (p.size : Int) ≤ m
    · have hix := Lib.run_indexString (P := Tryz.prog) ⟨#[61, 63, 33, 38, 94, 124, 40, 41]⟩ p w _ m globIs hm h2 hml (by decide)
      rw [show Lib.index (ByteArray.data ⟨#[61, 63, 33, 38, 94, 124, 40, 41]⟩).toList p.data.toList = -1 from by
        have hc := bl_cons p (by omega)
        unfold bl at hc
        rw [hc]
        exact index_not HN.out] at hix
      go_enter Tryz.func192, Tryz.ntmps192
      go_wp2_with go_in
      rw [run_callFunc_extern Tryz.func202 (by kernel_rfl) (by kernel_rfl) (by kernel_rfl) (e := Extern.BytealgIndex.index) (by kernel_rfl), hix]
      simp only [Result.andThen]
      rw [Oper.upon_value]
      go_wp2
      go_ret
      exact ⟨rfl, rfl⟩
    · have hml' : m < (p.size : Int) := by omega
      have h61 : (((((⟨#[61, 63, 33, 38, 94, 124, 40, 41]⟩ : ByteArray)[0]'(by decide)).toNat : Nat) : Int) != (p[0].toNat : Int)) = true := by
        have : p[0] ≠ 61 := fun e => HN.out (by rw [e]; simp)
        refine bne_iff_ne.2 (fun e => this ?_)
        have e2 : (61 : UInt8).toNat = p[0].toNat := Int.ofNat.inj e
        exact (UInt8.toNat_inj.1 e2).symm
      go_enter Tryz.func192, Tryz.ntmps192
      go_wp2_with fail
      go_loop [8] (fun i => i = .int .i64 0) (fun _ => 0)
      case atStart => rfl
      case round =>
        obtain rfl := hrel
        go_wp2_with (first | (go_at_call 201; refine (indexByte_none _ p[0] (ext_not HN.out _ _)).mono ?_; rintro e w' ⟨rfl, rfl⟩))
        go_ret
        exact ⟨rfl, rfl⟩

set_option maxRecDepth 100000 in
set_option maxHeartbeats 1000000 in
/-- is a piece one of the signs? -/
theorem contains_any {w : World} (hG : Glob w) (p : ByteArray) (h : (∃ c, p = mk [c]) ∨ (2 ≤ p.size ∧ ∃ h0 : 0 < p.size, an p[0] = true)) :
    Calls Tryz.prog 198 #[.string ⟨#[61, 63, 33, 38, 94, 124, 40, 41]⟩, .string p] w fun e w' => e = .returned (.bool (signP (bl p))) ∧ w = w' := by
  rcases h with ⟨c, rfl⟩ | ⟨h2, h0, ha⟩
  · have hs := sign_iff c
    have HS : Hid (decide (0 ≤ Lib.indexByte [61, 63, 33, 38, 94, 124, 40, 41] c) = sign c) := hs
    clear hs
    rw [bl_mk]
    go_enter Tryz.func198, Tryz.ntmps198
    go_wp2_with (first
      | (go_at_call 174; go_in)
      | (go_at_call 192; refine (index_one _ c).mono ?_; rintro e w' ⟨rfl, rfl⟩))
    all_goals go_ret
    all_goals refine ⟨ret_bool ?_, rfl⟩
    all_goals exact HS.out
  · have hne : (signP (bl p)) = false := by
      have := bl_len p
      unfold signP
      split
      · rename_i hb; rw [hb] at this; simp at this; omega
      · rfl
    rw [hne]
    clear hne
    go_enter Tryz.func198, Tryz.ntmps198
    go_wp2_with (first
      | (go_at_call 174; go_in)
      | (go_at_call 192; refine (index_no hG p h2 ha).mono ?_; rintro e w' ⟨rfl, rfl⟩))
    all_goals go_ret
    all_goals exact ⟨rfl, rfl⟩

end Go.Proofs.YtmgjegokkbghlaaGreatDoor
