/- Questions to both stores: Same, Value, Count, Nodes; New. -/
import Derived.Test.YtmgjegokkbghlaaGreatPairC
import Derived.Test.YtmgjegokkbghlaaGreatNew
namespace Go.Proofs.YtmgjegokkbghlaaGreat
open Go.RowKit Go.Maps Bdd
set_option linter.unusedVariables false

/-! ### how often a function is true -/
theorem asgN_pow (n k i u b : Nat) (hk : k + 1 + u < n + 1) (hb : b < 2) : asgN n (2 ^ k * (2 * i + b)) (u : Int) = if u + k + 1 = n then decide (b = 1) else asgN n (2 ^ (k + 1) * i) (u : Int) := by
  unfold asgN
  rw [Int.toNat_natCast]
  have h1 := Nat.testBit_two_pow_mul_add (2 * i + b) (b := 0) (i := k) (Nat.pow_pos (by omega)) (n - 1 - u)
  have h2 := Nat.testBit_two_pow_mul_add i (b := 0) (i := k + 1) (Nat.pow_pos (by omega)) (n - 1 - u)
  rw [Nat.add_zero] at h1 h2
  rw [h1, h2, if_neg (by omega)]
  by_cases e : u + k + 1 = n
  · rw [if_pos e]
    have : n - 1 - u - k = 0 := by omega
    rw [this, Nat.testBit_zero]
    have : (2 * i + b) % 2 = b := by omega
    rw [this]
  · rw [if_neg e, if_neg (by omega)]
    have e1 : n - 1 - u - k = (n - 1 - u - (k + 1)) + 1 := by omega
    rw [e1, Nat.testBit_succ]
    congr 1
    omega
theorem cnt_range {n : Nat} {F : Fun} (hdep : ∀ a b, (∀ i, 0 ≤ i → i < (n : Int) → a i = b i) → F a = F b) : ∀ (k l i : Nat) (a : Int → Bool), l + k = n → (∀ u : Nat, u < l → a (u : Int) = asgN n (2 ^ k * i) (u : Int)) → cnt F k (l : Int) a = ((List.range (2 ^ k)).filter fun j => F (asgN n (2 ^ k * i + j))).length
  | 0, l, i, a, hl, ha => by
    have e : F a = F (asgN n (2 ^ 0 * i)) := hdep _ _ (fun u h0 h1 => by
      obtain ⟨v, rfl⟩ := Int.eq_ofNat_of_zero_le h0
      exact ha v (by omega))
    have e2 : List.range (2 ^ 0) = [0] := by decide
    rw [cnt, e, e2]
    simp only [Nat.pow_zero, Nat.one_mul, List.filter_cons, List.filter_nil, Nat.add_zero]
    cases F (asgN n i) <;> rfl
  | k + 1, l, i, a, hl, ha => by
    have step : ∀ b : Nat, b < 2 → cnt F k ((l : Int) + 1) (setAt a l (decide (b = 1))) = ((List.range (2 ^ k)).filter fun j => F (asgN n (2 ^ k * (2 * i + b) + j))).length := by
      intro b hb
      have := cnt_range hdep k (l + 1) (2 * i + b) (setAt a l (decide (b = 1))) (by omega) (fun u hu => by
        rw [asgN_pow n k i u b (by omega) hb]
        unfold setAt
        by_cases e : u = l
        · rw [if_pos (by omega), if_pos (by omega)]
        · rw [if_neg (by omega), if_neg (by omega)]
          exact ha u (by omega))
      rw [← this]
      congr 1
    rw [cnt]
    have h0 := step 0 (by omega)
    have h1 := step 1 (by omega)
    simp only [Nat.add_zero] at h0
    have d0 : decide ((0 : Nat) = 1) = false := by decide
    have d1 : decide ((1 : Nat) = 1) = true := by decide
    rw [d0] at h0
    rw [d1] at h1
    rw [h0, h1, Nat.pow_succ, Nat.mul_two, List.range_add, List.filter_append, List.length_append, List.filter_map, List.length_map]
    congr 2
    · congr 1
      funext j
      congr 2
      have h2 := Nat.mul_left_comm (2 ^ k) 2 i
      have h3 := Nat.add_mul (2 ^ k) (2 ^ k) i
      omega
    · congr 1
      funext j
      simp only [Function.comp]
      congr 2
      have h2 := Nat.mul_left_comm (2 ^ k) 2 i
      have h3 := Nat.add_mul (2 ^ k) (2 ^ k) i
      have h4 := Nat.mul_add (2 ^ k) (2 * i) 1
      omega
theorem cnt_trues {n : Nat} {F : Fun} (hdep : ∀ a b, (∀ i, 0 ≤ i → i < (n : Int) → a i = b i) → F a = F b) : cnt F n 0 (fun _ => false) = trues n F (2 ^ n) := by
  have := cnt_range hdep n 0 0 (fun _ => false) (by omega) (fun u hu => by omega)
  rw [show ((0 : Nat) : Int) = 0 from rfl] at this
  rw [this]
  unfold trues
  congr 2
  funext j
  rw [Nat.mul_zero, Nat.zero_add]

theorem txt_iff {n : Nat} {F G : Fun} (hF : ∀ a b, (∀ i, 0 ≤ i → i < (n : Int) → a i = b i) → F a = F b) (hG : ∀ a b, (∀ i, 0 ≤ i → i < (n : Int) → a i = b i) → G a = G b) : ((txt n F).toList == (txt n G).toList) = true ↔ ∀ a, F a = G a := by
  have e : ((txt n F).toList == (txt n G).toList) = true ↔ txt n F = txt n G := by
    rw [beq_iff_eq]
    constructor
    · intro h
      exact bytes_ext h
    · intro h; rw [h]
  rw [e]
  constructor
  · intro h a
    have h1 := txt_inj h (numOf a n) (numOf_lt a n)
    rw [hF a (asgN n (numOf a n)) (fun i h0 h1 => (asgN_num a n h0 h1).symm), hG a (asgN n (numOf a n)) (fun i h0 h1 => (asgN_num a n h0 h1).symm)]
    exact h1
  · intro h
    exact txt_congr (fun i _ => h _)

noncomputable def sameOf (A : Abs) (f g : Int) : Bool × Int := by
  classical
  exact match Vof A.fs f, Vof A.fs g with
  | some F, some G => (decide (∀ a, F a = G a), 0)
  | _, _ => (false, 2)
def valueOf (A : Abs) (f : Int) (v : List Bool) : Bool × Int := match Vof A.fs f with
  | none => (false, 2)
  | some F => if v.length = A.n then (F (fun i => v.getD i.toNat false), 0) else (false, 1)
def countOf (A : Abs) (f : Int) : Int × Int := match Vof A.fs f with
  | none => (0, 2)
  | some F => (((cnt F A.n 0 (fun _ => false) : Nat) : Int), 0)

section
variable {w : World} {own : Own} {tg : Tag} {s r : Nat} {A : Abs} {lb : Int}

theorem ps_same (h : PS w own tg s A lb) {f g : Int} (hf : Fits f) (hg : Fits g) :
    Calls Tryz.prog 48 #[.pointer (some ⟨s, 0, none⟩), .int .i64 f, .int .i64 g] w fun e w' => e = .returned (.tuple #[.bool (sameOf A f g).1, .int .i64 (sameOf A f g).2]) ∧ Keeps [] w w' := by
  classical
  obtain ⟨hb, t, bn, bm, od, sz, h1, h2, h3⟩ := h
  cases hF : Vof A.fs f with
  | none =>
    have e : sameOf A f g = (false, 2) := by simp [sameOf, hF]
    rw [e]
    exact same_bad h1 hf hg (Or.inl hF)
  | some F =>
    cases hG : Vof A.fs g with
    | none =>
      have e : sameOf A f g = (false, 2) := by simp [sameOf, hF, hG]
      rw [e]
      exact same_bad h1 hf hg (Or.inr hG)
    | some G =>
      have e : sameOf A f g = (decide (∀ a, F a = G a), 0) := by simp [sameOf, hF, hG]
      rw [e]
      refine (same_any h1 hF hG).mono ?_
      rintro e w' ⟨b, rfl, hb, hk⟩
      refine ⟨?_, hk⟩
      have : b = decide (∀ a, F a = G a) := by
        cases b with
        | true => exact (decide_eq_true (hb.1 rfl)).symm
        | false => exact (decide_eq_false (fun hh => by have := hb.2 hh; cases this)).symm
      rw [this]
theorem rs_same (hP : PS w own tg s A lb) {own' : Own} {tg' : Tag} {w' : World} (hA : AbsOk A) (h : RW w' own' tg' r A) (f g : Int) :
    Calls Tryz.prog 49 #[.pointer (some ⟨r, 0, none⟩), .int .i64 f, .int .i64 g] w' fun e w2 => e = .returned (.tuple #[.bool (sameOf A f g).1, .int .i64 (sameOf A f g).2]) ∧ w' = w2 := by
  classical
  obtain ⟨ov, lv, ⟨o, ho, hR⟩, h2, h3, h4⟩ := h
  have hl : (hsOf A.n A.fs).length ≤ 60 := by rw [hsOf_length]; exact hA.len
  refine (rsame_any hR.held hl f g).mono ?_
  rintro e w2 ⟨rfl, rfl⟩
  refine ⟨?_, rfl⟩
  cases hF : Vof A.fs f with
  | none =>
    have e : sameOf A f g = (false, 2) := by simp [sameOf, hF]
    rw [e]
    simp [sameV, hsOf_none hF]
  | some F =>
    cases hG : Vof A.fs g with
    | none =>
      have e : sameOf A f g = (false, 2) := by simp [sameOf, hF, hG]
      rw [e]
      simp [sameV, hsOf_none hG, hsOf_some hF]
    | some G =>
      have e : sameOf A f g = (decide (∀ a, F a = G a), 0) := by simp [sameOf, hF, hG]
      rw [e]
      simp only [sameV, hsOf_some hF, hsOf_some hG]
      have : ((txt A.n F).toList == (txt A.n G).toList) = decide (∀ a, F a = G a) := by
        have hi := txt_iff (hP.dep hF) (hP.dep hG)
        by_cases hh : ∀ a, F a = G a
        · rw [hi.2 hh, decide_eq_true hh]
        · rw [decide_eq_false hh]
          cases hc : ((txt A.n F).toList == (txt A.n G).toList) with
          | false => rfl
          | true => exact absurd (hi.1 hc) hh
      rw [this]

theorem ps_value (h : PS w own tg s A lb) {f : Int} (hf : Fits f) {vb cap : Nat} {v : List Bool} (hv : ∀ i, i < v.length → w.cell? ⟨vb, i, none⟩ = some (.bool (v.getD i false))) :
    Calls Tryz.prog 51 #[.pointer (some ⟨s, 0, none⟩), .int .i64 f, .slice (some ⟨vb, 0, none⟩) v.length cap] w fun e w' => e = .returned (.tuple #[.bool (valueOf A f v).1, .int .i64 (valueOf A f v).2]) ∧ Keeps [] w w' := by
  obtain ⟨hb, t, bn, bm, od, sz, h1, h2, h3⟩ := h
  cases hF : Vof A.fs f with
  | none =>
    have e : valueOf A f v = (false, 2) := by simp [valueOf, hF]
    rw [e]
    exact value_bad h1 hf hF
  | some F =>
    by_cases hl : v.length = A.n
    · have e : valueOf A f v = (F (fun i => v.getD i.toNat false), 0) := by simp [valueOf, hF, hl]
      rw [e, hl]
      exact valuec_any h1 hF (a := fun i => v.getD i.toNat false) (fun i hi => by simp only [Nat.zero_add, Int.toNat_natCast]; exact hv i (by omega))
    · have e : valueOf A f v = (false, 1) := by simp [valueOf, hF, hl]
      rw [e]
      exact value_range h1 hF hl
theorem rs_value (hP : PS w own tg s A lb) {own' : Own} {tg' : Tag} {w' : World} (hA : AbsOk A) (h : RW w' own' tg' r A) (f : Int) {p : Option Addr} {cap : Nat} {v : List Bool} (hv : v.length = 0 ∨ ∃ vb vo, p = some ⟨vb, vo, none⟩ ∧ ∀ i, i < v.length → w'.cell? ⟨vb, vo + i, none⟩ = some (.bool (v.getD i false))) :
    Calls Tryz.prog 54 #[.pointer (some ⟨r, 0, none⟩), .int .i64 f, .slice p v.length cap] w' fun e w2 => e = .returned (.tuple #[.bool (valueOf A f v).1, .int .i64 (valueOf A f v).2]) ∧ w' = w2 := by
  obtain ⟨ov, lv, ⟨o, ho, hR⟩, h2, h3, h4⟩ := h
  have hl : (hsOf A.n A.fs).length ≤ 60 := by rw [hsOf_length]; exact hA.len
  cases hF : Vof A.fs f with
  | none =>
    have e : valueOf A f v = (false, 2) := by simp [valueOf, hF]
    rw [e]
    exact rvalue_no hR.held hl (by rw [hsOf_in, hF]; rfl)
  | some F =>
    by_cases hl2 : v.length = A.n
    · have e : valueOf A f v = (F (fun i => v.getD i.toNat false), 0) := by simp [valueOf, hF, hl2]
      rw [e, hl2]
      rcases hv with hv | ⟨vb, vo, rfl, hv⟩
      · have := hA.n1; omega
      · have := rvalue_any (cap := cap) hA.n8 hR.c0 hR.held hl (hsOf_hasT hF) (a := fun i => v.getD i.toNat false) (vb := vb) (vo := vo) (fun i hi => by simp only [Int.toNat_natCast]; exact hv i (by omega))
        have e2 : F (asgN A.n (numOf (fun i => v.getD i.toNat false) A.n)) = F (fun i => v.getD i.toNat false) := hP.dep hF _ _ (fun i h0 h1 => asgN_num _ _ h0 h1)
        rw [e2] at this
        exact this
    · have e : valueOf A f v = (false, 1) := by simp [valueOf, hF, hl2]
      rw [e]
      exact rvalue_range hR.c0 hR.held hl (by rw [hsOf_in, hF]; rfl) hl2

theorem ps_count (h : PS w own tg s A lb) {f : Int} (hf : Fits f) :
    Calls Tryz.prog 55 #[.pointer (some ⟨s, 0, none⟩), .int .i64 f] w fun e w' => e = .returned (.tuple #[.int .i64 (countOf A f).1, .int .i64 (countOf A f).2]) ∧ Keeps [] w w' := by
  obtain ⟨hb, t, bn, bm, od, sz, h1, h2, h3⟩ := h
  cases hF : Vof A.fs f with
  | none =>
    have e : countOf A f = (0, 2) := by simp [countOf, hF]
    rw [e]
    exact count_bad h1 hf hF
  | some F =>
    have e : countOf A f = (((cnt F A.n 0 (fun _ => false) : Nat) : Int), 0) := by simp [countOf, hF]
    rw [e]
    exact countc_any h1 hF
theorem rs_count (hP : PS w own tg s A lb) {own' : Own} {tg' : Tag} {w' : World} (hA : AbsOk A) (h : RW w' own' tg' r A) (f : Int) :
    Calls Tryz.prog 56 #[.pointer (some ⟨r, 0, none⟩), .int .i64 f] w' fun e w2 => e = .returned (.tuple #[.int .i64 (countOf A f).1, .int .i64 (countOf A f).2]) ∧ w' = w2 := by
  obtain ⟨ov, lv, ⟨o, ho, hR⟩, h2, h3, h4⟩ := h
  have hl : (hsOf A.n A.fs).length ≤ 60 := by rw [hsOf_length]; exact hA.len
  cases hF : Vof A.fs f with
  | none =>
    have e : countOf A f = (0, 2) := by simp [countOf, hF]
    rw [e]
    exact rtrue_none hR.held hl (hsOf_none hF)
  | some F =>
    have e : countOf A f = (((cnt F A.n 0 (fun _ => false) : Nat) : Int), 0) := by simp [countOf, hF]
    rw [e, cnt_trues (hP.dep hF)]
    exact rtrue_some hA.n8 hR.held hl (hsOf_some hF) rfl

set_option maxRecDepth 100000 in
theorem ps_nodes (h : PS w own tg s A lb) :
    Calls Tryz.prog 57 #[.pointer (some ⟨s, 0, none⟩)] w fun e w' => e = .returned (.int .i64 (cntOf A.n A.o (Vof A.fs) : Int)) ∧ Keeps [] w w' := by
  obtain ⟨hb, t, bn, bm, od, sz, h1, h2, h3⟩ := h
  rw [cntOf_eq (h1.cnts.congr h2)]
  obtain ⟨N, last, H, hst, _⟩ := h1
  have c4 := hst.c4
  go_enter Tryz.func57, Tryz.ntmps57
  go_wp2_with fail
  refine (len_any hst.tab).mono ?_
  rintro e w1 ⟨rfl, rfl⟩
  go_wp2_with fail
  go_ret
  exact ⟨rfl, Keeps.refl _ _⟩
theorem rs_nodes (hP : PS w own tg s A lb) {own' : Own} {tg' : Tag} {w' : World} (hA : AbsOk A) (h : RW w' own' tg' r A) :
    Calls Tryz.prog 58 #[.pointer (some ⟨r, 0, none⟩)] w' fun e w2 => e = .returned (.int .i64 (cntOf A.n A.o (Vof A.fs) : Int)) ∧ Keeps [] w' w2 := by
  obtain ⟨ov, lv, ⟨o, ho, hR⟩, h2, h3, h4⟩ := h
  obtain ⟨sz, hsz⟩ := hP.cnts
  obtain ⟨N, last, od, g, hw, hg, hcount, hod⟩ := hsz.names hA.nd (by have := hA.len; omega)
  have e1 : hT N od (A.fs.map fun p => (p.1, g p.1)) = hsOf A.n A.fs := by
    unfold hT hsOf T
    rw [List.map_map]
    refine List.map_congr_left (fun p hp => ?_)
    simp only [Function.comp]
    rw [(hg p hp).2]
  have hR' := hR.order (o' := od) (fun k k0 k1 => (ho k k0 k1).trans (hod k k0 k1).symm)
  rw [← e1] at hR'
  have := rnodes_any hw hA.n8 hR' (fun p hp => by
    obtain ⟨q, hq, rfl⟩ := List.mem_map.1 hp
    exact (hg q hq).1) (by simp; exact hA.len)
  have e2 : (A.fs.map fun p => (p.1, g p.1)).map (·.2) = A.fs.map fun p => g p.1 := by rw [List.map_map]; rfl
  rw [e2, ← hcount, ← cntOf_eq hsz] at this
  exact this

/-- a new store -/
def Abs.new (n : Nat) (l : Int) : Abs := ⟨n, l, 0, fun k => k, []⟩
theorem AbsOk.fresh {n : Nat} (h1 : 1 ≤ n) (h8 : n ≤ 8) (l : Int) : AbsOk (Abs.new n l) := ⟨h1, h8, by simp [Abs.new], fun p hp => by simp [Abs.new] at hp, by simp [Abs.new], by simp [Abs.new]⟩
theorem ps_new {n : Nat} {l : Int} (h1 : 1 ≤ n) (h2 : n ≤ 8) (h3 : 0 ≤ l) (h4 : l ≤ 2000) (own : Own) (tg : Tag) :
    Calls Tryz.prog 11 #[.int .i64 n, .int .i64 l] w fun e w' => ∃ s, e = .returned (.tuple #[.pointer (some ⟨s, 0, none⟩), .int .i64 0]) ∧ PS w' (newOwn own w tg) tg s (Abs.new n l) 1 ∧ Keeps [] w w' := by
  refine (new_good h1 h2 h3 h4).mono ?_
  rintro e w' ⟨s, hb, t, bn, bm, ob, cap, rfl, hS, hk, q1, q2, q3, q4, q5, q6⟩
  refine ⟨s, rfl, ⟨hb, t, bn, bm, Ord.first n ob cap, 0, hS, fun k _ _ => rfl, fun b hb' => newOwn_new ?_⟩, hk⟩
  simp [Ord.first] at hb'
  omega
theorem rs_new {n : Nat} {l : Int} (h1 : 1 ≤ n) (h2 : n ≤ 8) (h3 : 0 ≤ l) (h4 : l ≤ 2000) (own : Own) (tg : Tag) :
    Calls Tryz.prog 12 #[.int .i64 n, .int .i64 l] w fun e w' => ∃ r, e = .returned (.tuple #[.pointer (some ⟨r, 0, none⟩), .int .i64 0]) ∧ RW w' (newOwn own w tg) tg r (Abs.new n l) ∧ Keeps [] w w' := by
  refine (rnew_good h1 h2 h3 h4).mono ?_
  rintro e w' ⟨rfl, ov, hR, ho, hk⟩
  exact ⟨_, rfl, ⟨ov, _, ⟨Ord.first n, fun k _ _ => rfl, hR⟩, newOwn_new (Nat.le_refl _), fun g hg => newOwn_new (ho g hg), fun g hg => by cases hg⟩, hk⟩
end

end Go.Proofs.YtmgjegokkbghlaaGreat
