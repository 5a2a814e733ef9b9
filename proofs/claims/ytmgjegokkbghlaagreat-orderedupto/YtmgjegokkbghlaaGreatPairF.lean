/- Both stores, told plainly: Restrict, Exists, Swap, Least, Size. -/
import Derived.Test.YtmgjegokkbghlaaGreatPair
import Derived.Test.YtmgjegokkbghlaaGreatProgNo2
import Derived.Test.YtmgjegokkbghlaaGreatSizeC
import Derived.Test.YtmgjegokkbghlaaGreatRefForm
namespace Go.Proofs.YtmgjegokkbghlaaGreat
open Go.RowKit Go.Maps Bdd
set_option linter.unusedVariables false

/-! ### plain -/
theorem exs_ex (ls : List Int) (F : Fun) : ∀ j, j ≤ ls.length → ∀ a, exs (fun i => ls.getD i 0) F j a = true ↔ ExP (frOf ls j) F a
  | 0, _, a => by
    constructor
    · intro h; exact ⟨a, fun _ _ => rfl, h⟩
    · rintro ⟨b, hb, h⟩
      have : b = a := funext fun i => hb i (by simp [frOf])
      rw [this] at h
      exact h
  | j + 1, hj, a => by
    show (exs (fun i => ls.getD i 0) F j (setAt a (ls.getD j 0) false) || exs (fun i => ls.getD i 0) F j (setAt a (ls.getD j 0) true)) = true ↔ _
    rw [Bool.or_eq_true, exs_ex ls F j (by omega), exs_ex ls F j (by omega)]
    have key : ∀ v, ExP (frOf ls j) F (setAt a (ls.getD j 0) v) → ExP (frOf ls (j + 1)) F a := by
      rintro v ⟨b, hb, h⟩
      refine ⟨b, fun i hi => ?_, h⟩
      rw [frOf_succ ls j (by omega)] at hi
      simp only [Bool.or_eq_false_iff] at hi
      rw [hb i hi.1]
      unfold setAt
      rw [if_neg (by simpa using hi.2)]
    constructor
    · rintro (h | h)
      · exact key _ h
      · exact key _ h
    · rintro ⟨b, hb, h⟩
      have back : ∀ v, b (ls.getD j 0) = v → ExP (frOf ls j) F (setAt a (ls.getD j 0) v) := fun v hv => ⟨b, fun i hi => by
        unfold setAt
        by_cases e : i = ls.getD j 0
        · rw [if_pos e, e]; exact hv
        · rw [if_neg e]
          refine hb i ?_
          rw [frOf_succ ls j (by omega), hi]
          simpa using e, h⟩
      cases hv : b (ls.getD j 0) with
      | false => exact Or.inl (back false hv)
      | true => exact Or.inr (back true hv)
theorem exs_exB (ls : List Int) (F : Fun) : exs (fun i => ls.getD i 0) F ls.length = exB (frOf ls ls.length) F := by
  funext a
  have h1 := exs_ex ls F ls.length (Nat.le_refl _) a
  rw [← exB_iff] at h1
  cases hx : exs (fun i => ls.getD i 0) F ls.length a with
  | true => exact (h1.1 hx).symm
  | false =>
    cases hy : exB (frOf ls ls.length) F a with
    | true => rw [h1.2 hy] at hx; cases hx
    | false => rfl
theorem swap_text {n : Nat} (hn8 : n ≤ 8) {F : Fun} (hF : ∀ a b, (∀ i, 0 ≤ i → i < (n : Int) → a i = b i) → F a = F b) {u v : Nat} (hu : u < n) (hv : v < n) : ∀ i, i < 2 ^ n → F (swapA (asgN n i) (u : Int) (v : Int)) = F (asgN n (swapBit n i u v)) := by
  intro i hi
  refine hF _ _ (fun k h0 h1 => ?_)
  have l3 := putBit_lt hn8 hi (show n - 1 - u < n by omega) (i.testBit (n - 1 - v))
  unfold swapBit
  rw [asg_put hn8 l3 hv _ k h0 h1]
  have e1 : i.testBit (n - 1 - u) = asgN n i (u : Int) := by unfold asgN; rw [Int.toNat_natCast]
  have e2 : i.testBit (n - 1 - v) = asgN n i (v : Int) := by unfold asgN; rw [Int.toNat_natCast]
  rw [e1, e2]
  rw [e2] at l3
  have e3 : ∀ x, setAt (asgN n (putBit i (n - 1 - u) (asgN n i (v : Int)))) (v : Int) x k = setAt (setAt (asgN n i) (u : Int) (asgN n i (v : Int))) (v : Int) x k := fun x => by
    unfold setAt
    by_cases e : k = (v : Int)
    · rw [if_pos e, if_pos e]
    · rw [if_neg e, if_neg e]
      have := asg_put hn8 hi hu (asgN n i (v : Int)) k h0 h1
      rw [this]
      rfl
  rw [e3]
  unfold swapA setAt
  by_cases ku : k = (u : Int)
  · rw [if_pos ku]
    by_cases kv : k = (v : Int)
    · rw [if_pos kv, ← kv, ku]
    · rw [if_neg kv, if_pos ku]
  · rw [if_neg ku]
    by_cases kv : k = (v : Int)
    · rw [if_pos kv, if_pos kv]
    · rw [if_neg kv, if_neg kv, if_neg ku]

open Classical in
/-- a function is made, or refused: the other ways -/
noncomputable def mkF (A : Abs) (k a b c : Int) (ls : List Int) : Int ⊕ Fun :=
  match Vof A.fs a with
  | none => .inl 2
  | some F =>
    if k = 12 then (if AllV A.n [b] 1 then .inr (fun x => F (setAt x b (c.tmod 2 != 0))) else .inl 3)
    else if k = 13 then (if AllV A.n ls ls.length then .inr (exB (frOf ls ls.length) F) else .inl 3)
    else (if AllV A.n [b, c] 2 then .inr (fun x => F (swapA x b c)) else .inl 3)

section
variable {w : World} {own : Own} {tg : Tag} {s r : Nat} {A : Abs} {lb : Int}

theorem allV1 {L : Nat} {b : Int} : AllV L [b] 1 ↔ 0 ≤ b ∧ b < (L : Int) := by
  constructor
  · intro h; simpa using h 0 (by omega)
  · intro h k hk
    have : k = 0 := by omega
    subst this
    simpa using h
theorem allV2 {L : Nat} {b c : Int} : AllV L [b, c] 2 ↔ (0 ≤ b ∧ b < (L : Int)) ∧ (0 ≤ c ∧ c < (L : Int)) := by
  constructor
  · intro h; exact ⟨by simpa using h 0 (by omega), by simpa using h 1 (by omega)⟩
  · intro h k hk
    have : k = 0 ∨ k = 1 := by omega
    rcases this with rfl | rfl
    · simpa using h.1
    · simpa using h.2

theorem ps_restrict (hA : AbsOk A) (h : PS w own tg s A lb) (hg : A.la + 1 ≤ 4611686018427387904) (hlb : lb + 100000 ≤ 4611686018427387904) {a : Int} (ha : Fits a) (b c : Int) (ls : List Int) :
    Calls Tryz.prog 27 #[.pointer (some ⟨s, 0, none⟩), .int .i64 a, .int .i64 b, .bool (c.tmod 2 != 0)] w (MadeP w own tg s A lb (mkF A 12 a b c ls)) := by
  have h0 := h
  obtain ⟨hb, t, bn, bm, od, sz, h1, h2, h3⟩ := h
  cases hf : Vof A.fs a with
  | none =>
    have e : mkF A 12 a b c ls = .inl 2 := by simp [mkF, hf]
    rw [e]
    exact (restrict_no h1 ha (Or.inl ⟨by rw [hf]; rfl, rfl⟩)).mono (fun e w' hh => MadeP.no h0 hh.1 hh.2)
  | some F =>
    by_cases hv : AllV A.n [b] 1
    · have e : mkF A 12 a b c ls = .inr (fun x => F (setAt x b (c.tmod 2 != 0))) := by simp [mkF, hf, hv]
      rw [e]
      have hv' := allV1.1 hv
      exact (restrict_call h1 hf hv'.1 hv'.2 hlb hg).mono (fun e w' hh => MadeP.yes hA h1 h2 h3 hh)
    · have e : mkF A 12 a b c ls = .inl 3 := by simp [mkF, hf, hv]
      rw [e]
      exact (restrict_no h1 ha (Or.inr ⟨by rw [hf]; rfl, hv, rfl⟩)).mono (fun e w' hh => MadeP.no h0 hh.1 hh.2)
theorem ps_swap (hA : AbsOk A) (h : PS w own tg s A lb) (hg : A.la + 1 ≤ 4611686018427387904) (hlb : lb + 100000 ≤ 4611686018427387904) {a : Int} (ha : Fits a) (b c : Int) (ls : List Int) :
    Calls Tryz.prog 31 #[.pointer (some ⟨s, 0, none⟩), .int .i64 a, .int .i64 b, .int .i64 c] w (MadeP w own tg s A lb (mkF A 14 a b c ls)) := by
  have h0 := h
  obtain ⟨hb, t, bn, bm, od, sz, h1, h2, h3⟩ := h
  cases hf : Vof A.fs a with
  | none =>
    have e : mkF A 14 a b c ls = .inl 2 := by simp [mkF, hf]
    rw [e]
    exact (swap_no h1 ha (Or.inl ⟨by rw [hf]; rfl, rfl⟩)).mono (fun e w' hh => MadeP.no h0 hh.1 hh.2)
  | some F =>
    by_cases hv : AllV A.n [b, c] 2
    · have e : mkF A 14 a b c ls = .inr (fun x => F (swapA x b c)) := by simp [mkF, hf, hv]
      rw [e]
      have hv' := allV2.1 hv
      exact (swap_call h1 hf hv'.1.1 hv'.1.2 hv'.2.1 hv'.2.2 hlb hg).mono (fun e w' hh => MadeP.yes hA h1 h2 h3 hh)
    · have e : mkF A 14 a b c ls = .inl 3 := by simp [mkF, hf, hv]
      rw [e]
      exact (swap_no h1 ha (Or.inr ⟨by rw [hf]; rfl, hv, rfl⟩)).mono (fun e w' hh => MadeP.no h0 hh.1 hh.2)
theorem ps_exists (hA : AbsOk A) (h : PS w own tg s A lb) (hg : A.la + 1 ≤ 4611686018427387904) (hlb : lb + 100000 ≤ 4611686018427387904) {a : Int} (ha : Fits a) (b c : Int) (ls : List Int) (hls : ls.length < 4611686018427387904) {g cap n : Nat} (hn : n = ls.length) (hi : IntsIn w g 0 ls) :
    Calls Tryz.prog 29 #[.pointer (some ⟨s, 0, none⟩), .int .i64 a, .slice (some ⟨g, 0, none⟩) n cap] w (MadeP w own tg s A lb (mkF A 13 a b c ls)) := by
  have h0 := h
  obtain ⟨hb, t, bn, bm, od, sz, h1, h2, h3⟩ := h
  cases hf : Vof A.fs a with
  | none =>
    have e : mkF A 13 a b c ls = .inl 2 := by simp [mkF, hf]
    rw [e]
    exact (exists_no h1 ha ls hls hn hi (Or.inl ⟨by rw [hf]; rfl, rfl⟩)).mono (fun e w' hh => MadeP.no h0 hh.1 hh.2)
  | some F =>
    by_cases hv : AllV A.n ls ls.length
    · have e : mkF A 13 a b c ls = .inr (exB (frOf ls ls.length) F) := by simp [mkF, hf, hv]
      rw [e]
      exact (exists_call h1 hf ls hls hn hi hv hlb hg).mono (fun e w' hh => MadeP.yes hA h1 h2 h3 hh)
    · have e : mkF A 13 a b c ls = .inl 3 := by simp [mkF, hf, hv]
      rw [e]
      exact (exists_no h1 ha ls hls hn hi (Or.inr ⟨by rw [hf]; rfl, hv, rfl⟩)).mono (fun e w' hh => MadeP.no h0 hh.1 hh.2)

/-- the functions that are held hang on the store's variables alone -/
def Dep (A : Abs) : Prop := ∀ f F, Vof A.fs f = some F → ∀ a b, (∀ i, 0 ≤ i → i < (A.n : Int) → a i = b i) → F a = F b
theorem PS.deps (h : PS w own tg s A lb) : Dep A := fun f F hf => h.dep hf

theorem rs_restrict (hA : AbsOk A) (h : RW w own tg r A) (hD : Dep A) (hla : A.la < 4611686018427387904) (a b c : Int) (ls : List Int) (hc : Known1 A (mkF A 12 a b c ls)) :
    Calls Tryz.prog 37 #[.pointer (some ⟨r, 0, none⟩), .int .i64 a, .int .i64 b, .bool (c.tmod 2 != 0)] w (MadeR w own tg r A (mkF A 12 a b c ls)) := by
  have h0 := h
  obtain ⟨ov, lv, h1, h2, h3, h4⟩ := h
  have h1' := h1
  obtain ⟨o, _, hR⟩ := h1'
  have hl : (hsOf A.n A.fs).length ≤ 60 := by rw [hsOf_length]; exact hA.len
  cases hf : Vof A.fs a with
  | none =>
    have e : mkF A 12 a b c ls = .inl 2 := by simp [mkF, hf]
    rw [e]
    exact (rrestrict_no hR.c0 hR.held hl (by rw [hsOf_in, hf]; rfl) _).mono (fun e w' hh => MadeR.no hA h0 hh.1 (hh.2 ▸ Keeps.refl _ _))
  | some F =>
    by_cases hv : AllV A.n [b] 1
    · have e : mkF A 12 a b c ls = .inr (fun x => F (setAt x b (c.tmod 2 != 0))) := by simp [mkF, hf, hv]
      rw [e] at hc ⊢
      have hv' := allV1.1 hv
      obtain ⟨v, rfl⟩ := Int.eq_ofNat_of_zero_le hv'.1
      have hvn : v < A.n := by omega
      exact (rrestrict_any (G := fun x => F (setAt x (v : Int) (c.tmod 2 != 0))) hA.n8 hR.c0 hR.held hl (hsOf_hasT hf) hvn _ (fun i hi => hD a F hf _ _ (fun u u0 u1 => (asg_put hA.n8 hi hvn _ u u0 u1).symm)) (rhold_by h1 hA _ (hc _ rfl) hla)).mono (fun e w' hh => MadeR.yes hA h1 h2 h3 h4 hh)
    · have e : mkF A 12 a b c ls = .inl 3 := by simp [mkF, hf, hv]
      rw [e]
      exact (rrestrict_var hR.c0 hR.held hl (by rw [hsOf_in, hf]; rfl) (by have hno : ¬ (0 ≤ b ∧ b < (A.n : Int)) := fun hh => hv (allV1.2 hh); omega) _).mono (fun e w' hh => MadeR.no hA h0 hh.1 (hh.2 ▸ Keeps.refl _ _))
theorem rs_swap (hA : AbsOk A) (h : RW w own tg r A) (hD : Dep A) (hla : A.la < 4611686018427387904) (a b c : Int) (ls : List Int) (hc : Known1 A (mkF A 14 a b c ls)) :
    Calls Tryz.prog 39 #[.pointer (some ⟨r, 0, none⟩), .int .i64 a, .int .i64 b, .int .i64 c] w (MadeR w own tg r A (mkF A 14 a b c ls)) := by
  have h0 := h
  obtain ⟨ov, lv, h1, h2, h3, h4⟩ := h
  have h1' := h1
  obtain ⟨o, _, hR⟩ := h1'
  have hl : (hsOf A.n A.fs).length ≤ 60 := by rw [hsOf_length]; exact hA.len
  cases hf : Vof A.fs a with
  | none =>
    have e : mkF A 14 a b c ls = .inl 2 := by simp [mkF, hf]
    rw [e]
    exact (rswap_no hR.c0 hR.held hl (by rw [hsOf_in, hf]; rfl)).mono (fun e w' hh => MadeR.no hA h0 hh.1 (hh.2 ▸ Keeps.refl _ _))
  | some F =>
    by_cases hv : AllV A.n [b, c] 2
    · have e : mkF A 14 a b c ls = .inr (fun x => F (swapA x b c)) := by simp [mkF, hf, hv]
      rw [e] at hc ⊢
      have hv' := allV2.1 hv
      obtain ⟨u, rfl⟩ := Int.eq_ofNat_of_zero_le hv'.1.1
      obtain ⟨v, rfl⟩ := Int.eq_ofNat_of_zero_le hv'.2.1
      have hun : u < A.n := by omega
      have hvn : v < A.n := by omega
      exact (rswap_any hA.n8 hR.c0 hR.held hl (hsOf_hasT hf) hun hvn (swap_text hA.n8 (hD a F hf) hun hvn) (rhold_by h1 hA _ (hc _ rfl) hla)).mono (fun e w' hh => MadeR.yes hA h1 h2 h3 h4 hh)
    · have e : mkF A 14 a b c ls = .inl 3 := by simp [mkF, hf, hv]
      rw [e]
      exact (rswap_var hR.c0 hR.held hl (by rw [hsOf_in, hf]; rfl) (fun hh => hv (allV2.2 hh))).mono (fun e w' hh => MadeR.no hA h0 hh.1 (hh.2 ▸ Keeps.refl _ _))
theorem rs_exists (hA : AbsOk A) (h : RW w own tg r A) (hD : Dep A) (hla : A.la < 4611686018427387904) (a b c : Int) (ls : List Int) (hls : ls.length ≤ 4611686018427387904) {va : Option Addr} {cap n : Nat} (hn : n = ls.length) (hi : IntsAt w va n (fun i => ls.getD i 0)) (hc : Known1 A (mkF A 13 a b c ls)) :
    Calls Tryz.prog 38 #[.pointer (some ⟨r, 0, none⟩), .int .i64 a, .slice va n cap] w (MadeR w own tg r A (mkF A 13 a b c ls)) := by
  have h0 := h
  obtain ⟨ov, lv, h1, h2, h3, h4⟩ := h
  have h1' := h1
  obtain ⟨o, _, hR⟩ := h1'
  have hl : (hsOf A.n A.fs).length ≤ 60 := by rw [hsOf_length]; exact hA.len
  subst hn
  cases hf : Vof A.fs a with
  | none =>
    have e : mkF A 13 a b c ls = .inl 2 := by simp [mkF, hf]
    rw [e]
    exact (rexists_no hR.held hl (by rw [hsOf_in, hf]; rfl)).mono (fun e w' hh => MadeR.no hA h0 hh.1 (hh.2 ▸ Keeps.refl _ _))
  | some F =>
    by_cases hv : AllV A.n ls ls.length
    · have e : mkF A 13 a b c ls = .inr (exB (frOf ls ls.length) F) := by simp [mkF, hf, hv]
      rw [e] at hc ⊢
      have hh := rhold_by h1 hA (exB (frOf ls ls.length) F) (hc _ rfl) hla
      rw [← exs_exB] at hh ⊢
      exact (rexists_any hA.n8 hR.c0 hR.held hl (hsOf_hasT hf) (hD a F hf) hls hi (fun i hi' => hv i hi') hh).mono (fun e w' hh => MadeR.yes hA h1 h2 h3 h4 hh)
    · have e : mkF A 13 a b c ls = .inl 3 := by simp [mkF, hf, hv]
      rw [e]
      refine (rexists_var hR.c0 hR.held hl (by rw [hsOf_in, hf]; rfl) hls hi ?_).mono (fun e w' hh => MadeR.no hA h0 hh.1 (hh.2 ▸ Keeps.refl _ _))
      apply Classical.byContradiction
      intro hno
      exact hv (fun k hk => Classical.byContradiction (fun hq => hno ⟨k, hk, hq⟩))

/-! ### Least, Size -/
theorem bin_asg {n k : Nat} (hk : k < 2 ^ n) : bin (asgN n k) n = k := by
  refine Nat.eq_of_testBit_eq (fun i => ?_)
  by_cases hi : i < n
  · have h1 := bin_bit (asgN n k) n (n - 1 - i) (by omega)
    have e : n - 1 - (n - 1 - i) = i := by omega
    rw [e] at h1
    rw [h1]
    unfold asgN
    rw [Int.toNat_natCast, e]
  · rw [Nat.testBit_lt_two_pow (Nat.lt_of_lt_of_le (bin_lt _ n) (Nat.pow_le_pow_right (by omega) (by omega))), Nat.testBit_lt_two_pow (Nat.lt_of_lt_of_le hk (Nat.pow_le_pow_right (by omega) (by omega)))]
theorem asg_bin {n : Nat} (a : Int → Bool) : ∀ i, 0 ≤ i → i < (n : Int) → asgN n (bin a n) i = a i := by
  intro i h0 h1
  obtain ⟨k, rfl⟩ := Int.eq_ofNat_of_zero_le h0
  unfold asgN
  rw [Int.toNat_natCast]
  exact bin_bit a n k (by omega)

theorem row_blk {w : World} {g L : Nat} {base : Nat} {xs : List Value} (hb : Blk w g 4 L) (hbase : base ≤ g) (hL : L ≤ 8) (hx : xs.length = L) (hc : ∀ i, i < L → w.cell? ⟨g, i, none⟩ = xs[i]?) : w.ownsRow base 4 1 (.slice (some ⟨g, 0, none⟩) L L) L xs := by
  obtain ⟨cur, h1, h2⟩ := hb
  have hml : 1000 < maxLen := by decide
  refine ⟨by omega, .inr ⟨g, L, cur, rfl, hbase, h1, Nat.le_refl _, by omega, by omega, ?_⟩⟩
  apply List.ext_getElem?
  intro i
  rw [List.getElem?_take]
  by_cases hi : i < L
  · rw [if_pos (by omega), ← hc i hi, cell_of_row w g i cur 4 (0, 0) h1]
    simp
  · rw [if_neg (by omega), List.getElem?_eq_none (by omega)]

/-- the answer of Least: the error, and the first assignment, if there is one -/
def LeastV (A : Abs) (f : Int) (w : World) (base : Nat) (v : Value) (x : Int) : Prop :=
  (Vof A.fs f = none ∧ v = .slice none 0 0 ∧ x = 2) ∨ ∃ F, Vof A.fs f = some F ∧ x = 0 ∧ (((∀ i, i < 2 ^ A.n → F (asgN A.n i) = false) ∧ v = .slice none 0 0) ∨
    ∃ i, i < 2 ^ A.n ∧ F (asgN A.n i) = true ∧ (∀ k, k < i → F (asgN A.n k) = false) ∧ w.ownsRow base 4 1 v A.n (digB A.n i A.n))
theorem ps_least (hA : AbsOk A) (h : PS w own tg s A lb) {f : Int} (hf : Fits f) :
    Calls Tryz.prog 59 #[.pointer (some ⟨s, 0, none⟩), .int .i64 f] w fun e w' => Keeps [] w w' ∧ ∃ v x, e = .returned (.tuple #[v, .int .i64 x]) ∧ LeastV A f w' w.heap.size v x := by
  have hD := h.deps
  obtain ⟨hb, t, bn, bm, od, sz, h1, h2, h3⟩ := h
  cases hF : Vof A.fs f with
  | none =>
    refine (least_bad h1 hf hF).mono ?_
    rintro e w' ⟨rfl, hk⟩
    exact ⟨hk, _, _, rfl, Or.inl ⟨hF, rfl, rfl⟩⟩
  | some F =>
    refine (least_call h1 hF).mono ?_
    rintro e w' ⟨hk, ⟨hno, rfl⟩ | ⟨a, g, ha, hmin, hg, rfl, hcs, hblk⟩⟩
    · exact ⟨hk, _, _, rfl, Or.inr ⟨F, hF, rfl, Or.inl ⟨fun i _ => hno _, rfl⟩⟩⟩
    · refine ⟨hk, _, _, rfl, Or.inr ⟨F, hF, rfl, Or.inr ⟨bin a A.n, bin_lt a A.n, ?_, fun k hk' => ?_, ?_⟩⟩⟩
      · rw [hD f F hF _ a (asg_bin a)]
        exact ha
      · cases hc : F (asgN A.n k) with
        | false => rfl
        | true =>
          have h4 := hmin _ hc
          rw [bin_asg (by have := bin_lt a A.n; omega)] at h4
          omega
      · refine row_blk hblk hg hA.n8 (by simp [digB]) (fun i hi => ?_)
        rw [hcs i hi]
        have e := asg_bin (n := A.n) a (i : Int) (by omega) (by omega)
        simp [digB, hi, e]
theorem rs_least (hA : AbsOk A) (h : RW w own tg r A) (f : Int) :
    Calls Tryz.prog 60 #[.pointer (some ⟨r, 0, none⟩), .int .i64 f] w fun e w' => Keeps [] w w' ∧ ∃ v x, e = .returned (.tuple #[v, .int .i64 x]) ∧ LeastV A f w' w.heap.size v x := by
  obtain ⟨ov, lv, ⟨o, ho, hR⟩, h2, h3, h4⟩ := h
  have hl : (hsOf A.n A.fs).length ≤ 60 := by rw [hsOf_length]; exact hA.len
  cases hF : Vof A.fs f with
  | none =>
    refine (rleast_no hR.held hl (by rw [hsOf_in, hF]; rfl)).mono ?_
    rintro e w' ⟨rfl, rfl⟩
    exact ⟨Keeps.refl _ _, _, _, rfl, Or.inl ⟨hF, rfl, rfl⟩⟩
  | some F =>
    refine (rleast_any hA.n8 hR.c0 hR.held hl (hsOf_hasT hF)).mono ?_
    rintro e w' ⟨hk, ⟨hno, rfl⟩ | ⟨i, v, hi, hFi, hmin, rfl, hown⟩⟩
    · exact ⟨hk, _, _, rfl, Or.inr ⟨F, hF, rfl, Or.inl ⟨hno, rfl⟩⟩⟩
    · exact ⟨hk, _, _, rfl, Or.inr ⟨F, hF, rfl, Or.inr ⟨i, hi, hFi, hmin, hown⟩⟩⟩

/-- the answer of Size, by a table -/
theorem ps_size (hA : AbsOk A) (h : PS w own tg s A lb) {f : Int} (hf : Fits f) :
    Calls Tryz.prog 61 #[.pointer (some ⟨s, 0, none⟩), .int .i64 f] w fun e w' => Keeps [] w w' ∧ ∃ c x : Int, e = .returned (.tuple #[.int .i64 c, .int .i64 x]) ∧ ∀ (w1 : World) (own1 : Own) (tg1 : Tag) (r : Nat), RW w1 own1 tg1 r A →
      Calls Tryz.prog 62 #[.pointer (some ⟨r, 0, none⟩), .int .i64 f] w1 fun e w2 => e = .returned (.tuple #[.int .i64 c, .int .i64 x]) ∧ Keeps [] w1 w2 := by
  obtain ⟨hb, t, bn, bm, od, sz, h1, h2, h3⟩ := h
  cases hF : Vof A.fs f with
  | none =>
    refine (size_bad h1 hf hF).mono ?_
    rintro e w' ⟨rfl, hk⟩
    refine ⟨hk, _, _, rfl, ?_⟩
    rintro w1 own1 tg1 r ⟨ov, lv, ⟨o, ho, hR⟩, _⟩
    have hl : (hsOf A.n A.fs).length ≤ 60 := by rw [hsOf_length]; exact hA.len
    refine (rsize_no hR.held hl (by rw [hsOf_in, hF]; rfl)).mono ?_
    rintro e w2 ⟨rfl, rfl⟩
    exact ⟨rfl, Keeps.refl _ _⟩
  | some F =>
    refine (size_call h1 hF).mono ?_
    rintro e w' ⟨hk, c, N, last, f0, rfl, hw, hbig, hok, hFV, hcnt⟩
    refine ⟨hk, _, _, rfl, ?_⟩
    rintro w1 own1 tg1 r ⟨ov, lv, ⟨o, ho, hR⟩, _⟩
    have hl : (hsOf A.n A.fs).length ≤ 60 := by rw [hsOf_length]; exact hA.len
    have hR' := hR.order (o' := od) (fun k k0 k1 => (ho k k0 k1).trans (h2 k k0 k1).symm)
    have hFe : FV N od f0 = F := funext hFV
    have := rsizeof_any hw hA.n8 hR' hl hok (by rw [hFe]; exact hsOf_hasT hF)
    have hn8 := hA.n8
    obtain ⟨l, hd, hlen, hm, _⟩ := count_names hw A.n 0 (once [] [f0]) (by omega) (by omega) (by omega) (once_nodup _ _ List.nodup_nil) (fun y hy => by
      rw [mem_once] at hy
      simp at hy
      subst hy
      exact hok)
    have ec : c = l.length := by
      refine hcnt l hd ?_ (fun x => ?_)
      · rw [hlen]
        have h5 := total_le N A.n 0 (once [] [f0])
        have h6 := once_len [f0] []
        simp at h6
        have h7 : 2 ^ A.n ≤ 2 ^ 8 := Nat.pow_le_pow_right (by omega) hn8
        have h8 : (once [] [f0]).length * (2 ^ A.n - 1) ≤ 1 * 255 := Nat.mul_le_mul (by omega) (by omega)
        omega
      · rw [hm]
        constructor
        · intro hr; exact ⟨f0, by rw [mem_once]; simp, hr⟩
        · rintro ⟨y, hy, hr⟩
          rw [mem_once] at hy
          simp at hy
          subst hy
          exact hr
    rw [← hlen, ← ec] at this
    exact this
end

end Go.Proofs.YtmgjegokkbghlaaGreat
