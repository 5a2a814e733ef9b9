/- How many nodes some functions have together, level by level: by names. Plain mathematics. The document's store: bits of numbers, functions as texts. A name's text, in an order: what hangs, what is given, which are the same. The walk of the document's Count. -/
import Derived.Test.YtmgjegokkbghlaaGreatShape
import Derived.Laws.BitsLemmas
import Derived.Test.YtmgjegokkbghlaaGreatOrder
namespace Go.Proofs.YtmgjegokkbghlaaGreat
open Go.RowKit Go.Maps Bdd

section
variable {N : Tab} {top last : Int}

/-- each once, in the order in which they come -/
def once : List Int → List Int → List Int
  | acc, [] => acc
  | acc, x :: r => once (if acc.contains x then acc else acc ++ [x]) r
theorem mem_once : ∀ (l acc : List Int) (x : Int), x ∈ once acc l ↔ x ∈ acc ∨ x ∈ l
  | [], acc, x => by simp [once]
  | y :: r, acc, x => by
    rw [once, mem_once r]
    by_cases h : acc.contains y = true
    · rw [if_pos h]
      have hy : y ∈ acc := by simpa using h
      constructor
      · rintro (h1 | h1)
        · exact Or.inl h1
        · exact Or.inr (by simp [h1])
      · rintro (h1 | h1)
        · exact Or.inl h1
        · rcases List.mem_cons.1 h1 with rfl | h1
          · exact Or.inl hy
          · exact Or.inr h1
    · rw [if_neg h]
      simp only [List.mem_append, List.mem_cons, List.not_mem_nil, or_false]
      constructor
      · rintro ((h1 | h1) | h1)
        · exact Or.inl h1
        · exact Or.inr (Or.inl h1)
        · exact Or.inr (Or.inr h1)
      · rintro (h1 | h1 | h1)
        · exact Or.inl (Or.inl h1)
        · exact Or.inl (Or.inr h1)
        · exact Or.inr h1
theorem once_nodup : ∀ (l acc : List Int), acc.Nodup → (once acc l).Nodup
  | [], acc, h => h
  | y :: r, acc, h => by
    rw [once]
    by_cases hc : acc.contains y = true
    · rw [if_pos hc]; exact once_nodup r acc h
    · rw [if_neg hc]
      refine once_nodup r _ ?_
      have hy : y ∉ acc := fun hin => hc (by simpa using hin)
      rw [List.nodup_append]
      refine ⟨h, by simp, fun a ha b hb e => ?_⟩
      simp at hb
      subst hb
      subst e
      exact hy ha

/-- what comes of some functions at the next level -/
def nextN (N : Tab) (k : Int) (nm : List Int) : List Int := once [] (nm.flatMap fun x => [part N x k false, part N x k true])
/-- those that ask this level -/
def atLv (N : Tab) (k : Int) (nm : List Int) : List Int := nm.filter fun x => lvl N x == k
def total (N : Tab) : Nat → Int → List Int → Nat
  | 0, _, _ => 0
  | d + 1, k, nm => (atLv N k nm).length + total N d (k + 1) (nextN N k nm)

theorem mem_next {k x : Int} {nm : List Int} : x ∈ nextN N k nm ↔ ∃ y ∈ nm, x = part N y k false ∨ x = part N y k true := by
  unfold nextN
  rw [mem_once]
  simp only [List.not_mem_nil, false_or, List.mem_flatMap, List.mem_cons, or_false]
theorem lvl_at {h : Wf N top last} {k y : Int} (hy : Ok N k y) (hk : lvl N y = k) (hk8 : k ≤ 8) : ∃ n, N y = some n ∧ n.lv = k ∧ part N y k false = n.lo ∧ part N y k true = n.hi := by
  rcases hy with rfl | rfl | ⟨n, hn, hl⟩
  · simp only [lvl, h.zero] at hk; omega
  · simp only [lvl, h.onee] at hk; omega
  · simp only [lvl, hn] at hk
    exact ⟨n, hn, hk, by simp [part, hn, hk], by simp [part, hn, hk]⟩
theorem lvl_off {k y : Int} (hk : lvl N y ≠ k) (b : Bool) : part N y k b = y := by
  unfold part
  cases hn : N y with
  | none => rfl
  | some n =>
    have : n.lv ≠ k := by simpa [lvl, hn] using hk
    simp [this]

/-- THE NODES OF SOME FUNCTIONS, COUNTED LEVEL BY LEVEL -/
theorem count_names (h : Wf N top last) : ∀ (d : Nat) (k : Int) (nm : List Int), 0 ≤ k → k + (d : Int) ≤ 8 → top ≤ k + (d : Int) → nm.Nodup → (∀ y ∈ nm, Ok N k y) →
    ∃ l : List Int, l.Nodup ∧ l.length = total N d k nm ∧ (∀ x, x ∈ l ↔ ∃ y ∈ nm, Rch N y x) ∧ ∀ x ∈ l, ∃ n, N x = some n ∧ k ≤ n.lv := by
  intro d
  induction d with
  | zero =>
    intro k nm h0 h8 ht _ hok
    refine ⟨[], List.nodup_nil, rfl, fun x => ?_, by simp⟩
    constructor
    · intro hx; simp at hx
    · rintro ⟨y, hy, hr⟩
      rcases hok y hy with e | e | ⟨n, hn, hl⟩
      · exact absurd hr (rch_const h (Or.inl e))
      · exact absurd hr (rch_const h (Or.inr e))
      · have := h.lv y n hn; omega
  | succ d ih =>
    intro k nm h0 h8 ht hnd hok
    have hnext : ∀ y ∈ nextN N k nm, Ok N (k + 1) y := by
      intro y hy
      obtain ⟨z, hz, e | e⟩ := mem_next.1 hy
      · rw [e]; exact part_ok h (hok z hz) false
      · rw [e]; exact part_ok h (hok z hz) true
    obtain ⟨l, h1, h2, h3, h4⟩ := ih (k + 1) (nextN N k nm) (by omega) (by omega) (by omega) (once_nodup _ _ List.nodup_nil) hnext
    have hmem : ∀ x, x ∈ atLv N k nm ↔ x ∈ nm ∧ lvl N x = k := fun x => by simp [atLv]
    refine ⟨atLv N k nm ++ l, ?_, ?_, fun x => ?_, fun x hx => ?_⟩
    · rw [List.nodup_append]
      refine ⟨hnd.filter _, h1, fun x hx y hy e => ?_⟩
      subst e
      obtain ⟨n, hn, hl⟩ := h4 x hy
      have := ((hmem x).1 hx).2
      simp only [lvl, hn] at this
      omega
    · rw [List.length_append, h2, total]
    · rw [List.mem_append, hmem, h3]
      constructor
      · rintro (⟨hx, hl⟩ | ⟨y, hy, hr⟩)
        · obtain ⟨n, hn, _⟩ := lvl_at (h := h) (hok x hx) hl (by omega)
          exact ⟨x, hx, Rch.self hn⟩
        · obtain ⟨z, hz, e⟩ := mem_next.1 hy
          refine ⟨z, hz, ?_⟩
          by_cases hl : lvl N z = k
          · obtain ⟨n, hn, _, e0, e1⟩ := lvl_at (h := h) (hok z hz) hl (by omega)
            rcases e with e | e
            · rw [e, e0] at hr; exact Rch.lo hn hr
            · rw [e, e1] at hr; exact Rch.hi hn hr
          · rcases e with e | e
            · rw [e, lvl_off hl] at hr; exact hr
            · rw [e, lvl_off hl] at hr; exact hr
      · rintro ⟨y, hy, hr⟩
        by_cases hl : lvl N y = k
        · obtain ⟨n, hn, _, e0, e1⟩ := lvl_at (h := h) (hok y hy) hl (by omega)
          rcases (rch_at hn).1 hr with e | hr | hr
          · exact Or.inl ⟨e ▸ hy, e ▸ hl⟩
          · exact Or.inr ⟨n.lo, mem_next.2 ⟨y, hy, Or.inl e0.symm⟩, hr⟩
          · exact Or.inr ⟨n.hi, mem_next.2 ⟨y, hy, Or.inr e1.symm⟩, hr⟩
        · exact Or.inr ⟨y, mem_next.2 ⟨y, hy, Or.inl (lvl_off hl _).symm⟩, hr⟩
    · rcases List.mem_append.1 hx with hx | hx
      · obtain ⟨h5, h6⟩ := (hmem x).1 hx
        obtain ⟨n, hn, hl, _⟩ := lvl_at (h := h) (hok x h5) h6 (by omega)
        exact ⟨n, hn, by omega⟩
      · obtain ⟨n, hn, hl⟩ := h4 x hx
        exact ⟨n, hn, by omega⟩

/-- what hangs on a level is what asks it -/
theorem hangs_iff (h : Wf N top last) {k y : Int} (hy : Ok N k y) (h0 : 0 ≤ k) (hk8 : k ≤ 8) : (∃ a, E N y (setAt a k true) ≠ E N y (setAt a k false)) ↔ lvl N y = k := by
  constructor
  · rintro ⟨a, ha⟩
    by_cases hl : lvl N y = k
    · exact hl
    · exfalso
      have hge := lvl_ge h hy hk8
      have hok : Ok N (k + 1) y := ok_lvl hy (by omega)
      exact ha (by rw [E_setAt h hok (by omega), E_setAt h hok (by omega)])
  · intro hl
    obtain ⟨n, hn, hlv, _⟩ := lvl_at (h := h) hy hl hk8
    subst hlv
    have hlo := h.lo y n hn
    have hhi := h.hi y n hn
    false_or_by_contra
    rename_i hno
    refine h.ne y n hn ((canon_iff h (hlo.mono (by omega)) (hhi.mono (by omega))).2 (fun a => ?_))
    have h1 : E N y (setAt a n.lv true) = E N n.hi a := by rw [E_node h hn, if_pos (by simp [setAt]), E_setAt h hhi (by omega)]
    have h2 : E N y (setAt a n.lv false) = E N n.lo a := by rw [E_node h hn, if_neg (by simp [setAt]), E_setAt h hlo (by omega)]
    false_or_by_contra
    rename_i hne
    exact hno ⟨a, by rw [h1, h2]; exact fun e => hne e.symm⟩
/-- a function with a level given -/
theorem part_given (h : Wf N top last) {k y : Int} (hy : Ok N k y) (b : Bool) (a : Int → Bool) : E N (part N y k b) a = E N y (setAt a k b) := by
  have h1 := part_E h (m := k) (f := y) (setAt a k b)
  have e : setAt a k b k = b := by simp [setAt]
  rw [e] at h1
  rw [h1]
  exact (E_setAt h (part_ok h hy b) (by omega) b a).symm
end

end Go.Proofs.YtmgjegokkbghlaaGreat

namespace Go.Proofs.YtmgjegokkbghlaaGreat
open Go.RowKit Go.Maps Bdd
attribute [local go_sem ↓] Go.wp_at_zero Go.wp_at_succ

/-- the assignment of a number, of n variables -/
def asgN (n i : Nat) : Int → Bool := fun v => i.testBit (n - 1 - v.toNat)
/-- a number with a variable given -/
def withN (n i v : Nat) (b : Bool) : Nat := if i.testBit (n - 1 - v) = b then i else if b then i + 2 ^ (n - 1 - v) else i - 2 ^ (n - 1 - v)

theorem shr_and {i e : Nat} (hi : i < 256) : bits BinOp.and IntKind.i64 ((i : Int) / 2 ^ e) 1 = (if i.testBit e then 1 else 0) := by
  have h1 : ((i : Int) / 2 ^ e) = ((i / 2 ^ e : Nat) : Int) := by
    have e2 : ((2 : Int) ^ e) = ((2 ^ e : Nat) : Int) := by simp
    rw [e2, ← Int.natCast_ediv]
  have hlt : i / 2 ^ e < 2 ^ 8 := Nat.lt_of_le_of_lt (Nat.div_le_self _ _) (by omega)
  have h := (bits_nat .i64 8 (by decide) (fun n h0 h1 => IntWalk.i64_in _ ⟨by omega, by omega⟩) (i / 2 ^ e) 1 hlt (by decide)).1
  rw [h1]
  have h2 : bits BinOp.and IntKind.i64 (((i / 2 ^ e : Nat)) : Int) 1 = (((i / 2 ^ e) &&& 1 : Nat) : Int) := h
  rw [h2, Nat.and_one_is_mod]
  have h3 : i.testBit e = decide (i / 2 ^ e % 2 = 1) := Nat.testBit_eq_decide_div_mod_eq
  rw [h3]
  have : i / 2 ^ e % 2 = 0 ∨ i / 2 ^ e % 2 = 1 := by omega
  rcases this with h4 | h4 <;> simp [h4]

def bI : Bool → Int
  | true => 1
  | false => 0
theorem lt256 {n i : Nat} (hn8 : n ≤ 8) (hi : i < 2 ^ n) : i < 256 := by
  have : 2 ^ n ≤ 2 ^ 8 := Nat.pow_le_pow_right (by omega) hn8
  omega

set_option maxRecDepth 100000 in
set_option maxHeartbeats 400000 in
theorem rbit_any {w : World} {r n : Nat} (hn8 : n ≤ 8) (hc : w.cell? ⟨r, 0, none⟩ = some (.int .i64 (n : Int))) {i v : Nat} (hi : i < 2 ^ n) (hv : v < n) :
    Calls Tryz.prog 88 #[.pointer (some ⟨r, 0, none⟩), .int .i64 (i : Int), .int .i64 (v : Int)] w fun e w' => e = .returned (.int .i64 (bI (i.testBit (n - 1 - v)))) ∧ w = w' := by
  have hi8 := lt256 hn8 hi
  have h0 : (0 : Int) ≤ (v : Int) := by omega
  have h1 : (v : Int) < (n : Int) := by omega
  have h2 : (n : Int) ≤ 8 := by omega
  have h3 : (i : Int) < 256 := by omega
  have HB : Hid (bits BinOp.and IntKind.i64 ((i : Int) / 2 ^ (n - 1 - v)) 1 = bI (i.testBit (n - 1 - v))) := by
    show _ = _
    rw [shr_and hi8]
    cases i.testBit (n - 1 - v) <;> rfl
  go_enter Tryz.func88, Tryz.ntmps88
  go_wp2_with fail
  go_ret
  refine ⟨?_, by first | rfl | trivial⟩
  rw [← HB.out]
  rfl

/-- a number with a bit given -/
def putBit (i e : Nat) (b : Bool) : Nat := if i.testBit e = b then i else if b then i + 2 ^ e else i - 2 ^ e
set_option maxRecDepth 100000 in
theorem putBit_256 : ∀ i, i < 256 → ∀ e, e < 8 → (putBit i e true < 256 ∧ putBit i e false < 256) ∧ ∀ f, f < 8 → (putBit i e true).testBit f = (if f = e then true else i.testBit f) ∧ (putBit i e false).testBit f = (if f = e then false else i.testBit f) := by
  decide +kernel

theorem putBit_lt {n i e : Nat} (hn8 : n ≤ 8) (hi : i < 2 ^ n) (he : e < n) (b : Bool) : putBit i e b < 2 ^ n := by
  have hi8 := lt256 hn8 hi
  obtain ⟨⟨h1, h2⟩, h3⟩ := putBit_256 i hi8 e (by omega)
  have key : ∀ x, x < 256 → (∀ f, f < 8 → x.testBit f = if f = e then b else i.testBit f) → x < 2 ^ n := by
    intro x hx hb
    refine Nat.lt_pow_two_of_testBit x (fun f hf => ?_)
    by_cases hf8 : f < 8
    · rw [hb f hf8, if_neg (by omega)]
      exact Nat.testBit_lt_two_pow (Nat.lt_of_lt_of_le hi (Nat.pow_le_pow_right (by omega) hf))
    · exact Nat.testBit_lt_two_pow (Nat.lt_of_lt_of_le hx (show 2 ^ 8 ≤ 2 ^ f from Nat.pow_le_pow_right (by omega) (by omega)))
  cases b
  · exact key _ h2 (fun f hf => (h3 f hf).2)
  · exact key _ h1 (fun f hf => (h3 f hf).1)
/-- the assignment of a number with a bit given -/
theorem asg_put {n i v : Nat} (hn8 : n ≤ 8) (hi : i < 2 ^ n) (hv : v < n) (b : Bool) : ∀ u : Int, 0 ≤ u → u < (n : Int) → asgN n (putBit i (n - 1 - v) b) u = setAt (asgN n i) (v : Int) b u := by
  intro u h0 h1
  obtain ⟨k, rfl⟩ := Int.eq_ofNat_of_zero_le h0
  obtain ⟨_, h3⟩ := putBit_256 i (lt256 hn8 hi) (n - 1 - v) (by omega)
  have h4 := h3 (n - 1 - k) (by omega)
  unfold asgN setAt
  rw [Int.toNat_natCast]
  by_cases e : k = v
  · subst e
    rw [if_pos rfl]
    cases b
    · rw [h4.2, if_pos rfl]
    · rw [h4.1, if_pos rfl]
  · rw [if_neg (by omega)]
    cases b
    · rw [h4.2, if_neg (by omega)]; rfl
    · rw [h4.1, if_neg (by omega)]; rfl

set_option maxRecDepth 100000 in
set_option maxHeartbeats 400000 in
theorem rwith_any {w : World} {r n : Nat} (hn8 : n ≤ 8) (hc : w.cell? ⟨r, 0, none⟩ = some (.int .i64 (n : Int))) {i v : Nat} (hi : i < 2 ^ n) (hv : v < n) (b : Bool) :
    Calls Tryz.prog 90 #[.pointer (some ⟨r, 0, none⟩), .int .i64 (i : Int), .int .i64 (v : Int), .int .i64 (bI b)] w fun e w' => e = .returned (.int .i64 ((putBit i (n - 1 - v) b : Nat) : Int)) ∧ w = w' := by
  have hi8 := lt256 hn8 hi
  have h0 : (0 : Int) ≤ (v : Int) := by omega
  have h1 : (v : Int) < (n : Int) := by omega
  have h2 : (n : Int) ≤ 8 := by omega
  have h3 : (i : Int) < 256 := by omega
  have hpw : 2 ^ (n - 1 - v) ≤ 2 ^ 7 := Nat.pow_le_pow_right (by omega) (by omega)
  obtain ⟨p, hp⟩ : ∃ p, p = 2 ^ (n - 1 - v) := ⟨_, rfl⟩
  have hw : wrap64 ((2 : Int) ^ (n - 1 - v)) = (p : Int) := by
    have e2 : ((2 : Int) ^ (n - 1 - v)) = ((2 ^ (n - 1 - v) : Nat) : Int) := by simp
    rw [e2, ← hp]
    exact IntWalk.wrap64_in _ ⟨by omega, by omega⟩
  have hge : i.testBit (n - 1 - v) = true → p ≤ i := fun hb => by rw [hp]; exact Nat.ge_two_pow_of_testBit hb
  rw [← hp] at hpw
  cases hb : i.testBit (n - 1 - v) with
  | true =>
    have hpi := hge hb
    cases b with
    | true =>
      have HR : Hid (putBit i (n - 1 - v) true = i) := by show _ = _; unfold putBit; rw [hb, if_pos rfl]
      have HBT : Hid (bI (i.testBit (n - 1 - v)) = 1) := by rw [hb]; exact rfl
      rw [HR.out]
      clear hb hge hp
      simp only [bI]
      go_enter Tryz.func90, Tryz.ntmps90
      go_wp2_with fail
      refine (rbit_any hn8 hc hi hv).mono ?_
      rintro e w1 ⟨rfl, rfl⟩
      rw [HBT.out]
      go_wp2_with fail
      go_ret
      exact ⟨rfl, by first | rfl | trivial⟩
    | false =>
      have HR : Hid ((putBit i (n - 1 - v) false : Nat) = i - p) := by show _ = _; unfold putBit; rw [hb, hp]; simp
      have HBT : Hid (bI (i.testBit (n - 1 - v)) = 1) := by rw [hb]; exact rfl
      rw [HR.out]
      clear hb hge hp
      simp only [bI]
      go_enter Tryz.func90, Tryz.ntmps90
      go_wp2_with fail
      refine (rbit_any hn8 hc hi hv).mono ?_
      rintro e w1 ⟨rfl, rfl⟩
      rw [HBT.out]
      go_wp2_with fail
      go_ret
      exact ⟨congrArg (fun z : Int => Ending.returned (Value.int .i64 z)) (show (i : Int) - (p : Int) = ((i - p : Nat) : Int) by omega), by first | rfl | trivial⟩
  | false =>
    cases b with
    | false =>
      have HR : Hid ((putBit i (n - 1 - v) false : Nat) = i) := by show _ = _; unfold putBit; rw [hb]; simp
      have HBT : Hid (bI (i.testBit (n - 1 - v)) = 0) := by rw [hb]; exact rfl
      rw [HR.out]
      clear hb hge hp
      simp only [bI]
      go_enter Tryz.func90, Tryz.ntmps90
      go_wp2_with fail
      refine (rbit_any hn8 hc hi hv).mono ?_
      rintro e w1 ⟨rfl, rfl⟩
      rw [HBT.out]
      go_wp2_with fail
      go_ret
      exact ⟨rfl, by first | rfl | trivial⟩
    | true =>
      have HR : Hid ((putBit i (n - 1 - v) true : Nat) = i + p) := by show _ = _; unfold putBit; rw [hb, hp]; simp
      have HBT : Hid (bI (i.testBit (n - 1 - v)) = 0) := by rw [hb]; exact rfl
      rw [HR.out]
      clear hb hge hp
      simp only [bI]
      go_enter Tryz.func90, Tryz.ntmps90
      go_wp2_with fail
      refine (rbit_any hn8 hc hi hv).mono ?_
      rintro e w1 ⟨rfl, rfl⟩
      rw [HBT.out]
      go_wp2_with fail
      go_ret
      exact ⟨congrArg (fun z : Int => Ending.returned (Value.int .i64 z)) (show (i : Int) + (p : Int) = ((i + p : Nat) : Int) by omega), by first | rfl | trivial⟩

/-- a function as a text: of each number a byte -/
def txt (n : Nat) (F : (Int → Bool) → Bool) : ByteArray := ⟨((List.range (2 ^ n)).map fun i => if F (asgN n i) then (1 : UInt8) else 0).toArray⟩
theorem txt_size (n : Nat) (F : (Int → Bool) → Bool) : (txt n F).size = 2 ^ n := by
  show ((List.range (2 ^ n)).map _).toArray.size = _
  simp
theorem txt_get {n i : Nat} (F : (Int → Bool) → Bool) (h : i < (txt n F).size) : (txt n F)[i].toNat = if F (asgN n i) then 1 else 0 := by
  have : (txt n F)[i] = if F (asgN n i) then (1 : UInt8) else 0 := by
    show ((List.range (2 ^ n)).map fun i => if F (asgN n i) then (1 : UInt8) else 0).toArray[i]'(by rw [txt_size] at h; simpa using h) = _
    simp
  rw [this]
  cases F (asgN n i) <;> rfl
theorem txt_congr {n : Nat} {F G : (Int → Bool) → Bool} (h : ∀ i, i < 2 ^ n → F (asgN n i) = G (asgN n i)) : txt n F = txt n G := by
  unfold txt
  congr 2
  refine List.map_congr_left (fun i hi => ?_)
  rw [h i (by simpa using hi)]
theorem txt_inj {n : Nat} {F G : (Int → Bool) → Bool} (h : txt n F = txt n G) : ∀ i, i < 2 ^ n → F (asgN n i) = G (asgN n i) := by
  intro i hi
  have h1 := txt_get F (n := n) (i := i) (by rw [txt_size]; exact hi)
  have h2 := txt_get G (n := n) (i := i) (by rw [txt_size]; exact hi)
  have h3 : (txt n F)[i]'(by rw [txt_size]; exact hi) = (txt n G)[i]'(by rw [txt_size]; exact hi) := by simp only [h]
  rw [h3, h2] at h1
  cases hF : F (asgN n i) <;> cases hG : G (asgN n i) <;> simp_all

/-- a byte of a text -/
theorem txt_index {n i : Nat} (F : (Int → Bool) → Bool) (hi : i < 2 ^ n) (w : World) : (Instr.index 9 (.string (txt n F)) (.int .i64 (i : Int))).run Tryz.prog w = .ok (.int .u8 (bI (F (asgN n i)))) w := by
  have hs := txt_size n F
  rw [run_index_string w 9 (txt n F) .i64 (i : Int) Tryz.underlying9, dif_pos (by omega)]
  have h := txt_get F (n := n) (i := i) (by omega)
  have e : (txt n F)[((i : Int)).toNat]'(by omega) = (txt n F)[i]'(by omega) := by simp
  rw [e, h]
  cases F (asgN n i) <;> rfl

set_option maxRecDepth 100000 in
set_option maxHeartbeats 1000000 in
theorem rhangs_any {w : World} {r n : Nat} (hn8 : n ≤ 8) (hc : w.cell? ⟨r, 0, none⟩ = some (.int .i64 (n : Int))) (F : (Int → Bool) → Bool) {v : Nat} (hv : v < n) :
    Calls Tryz.prog 116 #[.pointer (some ⟨r, 0, none⟩), .string (txt n F), .int .i64 (v : Int)] w fun e w' => (∃ b : Bool, e = .returned (.bool b) ∧ (b = true ↔ ∃ i, i < 2 ^ n ∧ F (asgN n i) ≠ F (asgN n (putBit i (n - 1 - v) false)))) ∧ Keeps [] w w' := by
  have hp8 : 2 ^ n ≤ 2 ^ 8 := Nat.pow_le_pow_right (by omega) hn8
  have hlen : ∀ ty (w : World), (Builtin.len_ #[9] ty #[.string (txt n F)]).run Tryz.prog w = .ok (goInt ((2 ^ n : Nat) : Int)) w := fun ty w => by rw [run_len_string w 9 ty (txt n F) Tryz.underlying9, txt_size]
  obtain ⟨S, hS⟩ : ∃ S, S = txt n F := ⟨_, rfl⟩
  obtain ⟨M, hM⟩ : ∃ M, M = 2 ^ n := ⟨_, rfl⟩
  have HI : Hid (∀ (i : Nat) (w : World), i < M → (Instr.index 9 (.string S) (.int .i64 (i : Int))).run Tryz.prog w = .ok (.int .u8 (bI (F (asgN n i)))) w) := fun i w hi => by rw [hS]; exact txt_index F (by omega) w
  rw [← hS] at hlen ⊢
  rw [← hM] at hlen hp8 ⊢
  have HM : Hid (M = 2 ^ n) := hM
  clear hS hM
  go_enter Tryz.func116, Tryz.ntmps116
  go_wp2_with fail
  go_loopw [7] (fun x wr => ∃ j : Nat, j ≤ M ∧ x = .int .i64 j ∧ (∀ i, i < j → F (asgN n i) = F (asgN n (putBit i (n - 1 - v) false))) ∧ Keeps [] w wr) (fun x _ => M - (intOf x).toNat)
  case atStart => exact ⟨0, by omega, rfl, fun i hi => by omega, Keeps.refl _ _⟩
  case round =>
    obtain ⟨j, hj, rfl, hall, hk⟩ := hrel
    by_cases hlt : j < M
    · have hj0 : (0 : Int) ≤ (j : Int) := by omega
      have hj1 : (j : Int) < (M : Int) := by omega
      have hcr := hk.cell hc (by simp)
      have hjn : j < 2 ^ n := by rw [← HM.out]; exact hlt
      have hpl := putBit_lt hn8 hjn (show n - 1 - v < n by omega) false
      rw [← HM.out] at hpl
      obtain ⟨k, hkk⟩ : ∃ k, k = putBit j (n - 1 - v) false := ⟨_, rfl⟩
      have HK : Hid (k = putBit j (n - 1 - v) false) := hkk
      rw [← hkk] at hpl
      have i1 := fun w => HI.out j w hlt
      have i2 := fun w => HI.out k w hpl
      have hk0 : (0 : Int) ≤ (k : Int) := by omega
      have HW : Hid (∀ w' : World, w'.cell? ⟨r, 0, none⟩ = some (.int .i64 (n : Int)) → Calls Tryz.prog 90 #[.pointer (some ⟨r, 0, none⟩), .int .i64 (j : Int), .int .i64 (v : Int), .int .i64 0] w' fun e w'' => e = .returned (.int .i64 (k : Int)) ∧ w'' = w') := fun w' hcw => by
        refine (rwith_any hn8 hcw hjn hv false).mono ?_
        rintro e w'' ⟨rfl, rfl⟩
        rw [HK.out]
        exact ⟨rfl, rfl⟩
      clear hkk
      cases hb : decide (F (asgN n j) = F (asgN n k)) with
      | true =>
        have he : F (asgN n j) = F (asgN n k) := of_decide_eq_true hb
        have hne : (bI (F (asgN n j)) != bI (F (asgN n k))) = false := by rw [he]; simp
        have HE : Hid (F (asgN n j) = F (asgN n k)) := he
        generalize bI (F (asgN n j)) = x at *
        generalize bI (F (asgN n k)) = y at *
        clear hb he
        go_wp2_with fail
        go_quiet ((go_at_call 90; exact Calls.quiet_of_same (HW.out _ ((hk.drewN _).cell hc (by simp)))))
        go_wp2_with fail
        go_roundw
        case rel =>
          refine ⟨j + 1, by omega, by go_num, fun i hi => ?_, hk.drewN nq⟩
          by_cases e : i = j
          · subst e; rw [HE.out, HK.out]
          · exact hall i (by omega)
        case measure => simp [intOf]; omega
      | false =>
        have he : F (asgN n j) ≠ F (asgN n k) := of_decide_eq_false hb
        have hne : (bI (F (asgN n j)) != bI (F (asgN n k))) = true := by cases h1 : F (asgN n j) <;> cases h2 : F (asgN n k) <;> simp_all [bI]
        have HE : Hid (F (asgN n j) ≠ F (asgN n k)) := he
        generalize bI (F (asgN n j)) = x at *
        generalize bI (F (asgN n k)) = y at *
        clear hb he
        go_wp2_with fail
        go_quiet ((go_at_call 90; exact Calls.quiet_of_same (HW.out _ ((hk.drewN _).cell hc (by simp)))))
        go_wp2_with fail
        go_ret
        refine ⟨⟨true, rfl, fun _ => ⟨j, hlt, by rw [← HK.out]; exact HE.out⟩, fun _ => rfl⟩, hk.drewN nq⟩
    · have e : j = M := by omega
      subst e
      go_wp2_with fail
      go_ret
      refine ⟨⟨false, rfl, ?_⟩, hk⟩
      constructor
      · intro h; cases h
      · rintro ⟨i, h1, h2⟩; exact absurd (hall i h1) h2

theorem info5 : (Tryz.prog.info? 5).map (fun i => (i.zero, i.size, i.bytes)) = some (some (.int .u8 0), 1, 1) := by kernel_rfl
/-- bytes of truth values -/
def bytesV (f : Nat → Bool) (j : Nat) : List Value := (List.range j).map fun i => .int .u8 (bI (f i))
theorem bytesV_succ (f : Nat → Bool) (j : Nat) : bytesV f (j + 1) = bytesV f j ++ [.int .u8 (bI (f j))] := by simp [bytesV, List.range_succ]

def byteText (f : Nat → Bool) (j : Nat) : ByteArray := ⟨((List.range j).map fun i => if f i then (1 : UInt8) else 0).toArray⟩
theorem bytes_back {w : World} {base g j cap : Nat} {f : Nat → Bool} (h : w.ownsRow base 5 1 (.slice (some ⟨g, 0, none⟩) j cap) j (bytesV f j)) : (convert 111 9 (.slice (some ⟨g, 0, none⟩) j cap)).run Tryz.prog w = .ok (.string (byteText f j)) w := by
  have hl : ((List.range j).map fun i => if f i then (1 : UInt8) else 0).length = j := by simp
  have := run_convert_bytes_back (P := Tryz.prog) w 111 9 5 ⟨g, 0, none⟩ cap ((List.range j).map fun i => if f i then (1 : UInt8) else 0) Tryz.underlying111 Tryz.underlying5 Tryz.underlying9 (fun i hi => by
    have hij : i < j := by omega
    rw [Addr.add_mid, Nat.zero_add, h.cellAt i (by omega)]
    simp only [bytesV, List.getElem?_map, List.getElem?_range hij, Option.map_some, List.getElem_map, List.getElem_range]
    cases f i <;> rfl)
  rw [hl] at this
  exact this

set_option maxRecDepth 100000 in
set_option maxHeartbeats 1000000 in
theorem rgiven_any {w : World} {r n : Nat} (hn8 : n ≤ 8) (hc : w.cell? ⟨r, 0, none⟩ = some (.int .i64 (n : Int))) (F : (Int → Bool) → Bool) {v : Nat} (hv : v < n) (b : Bool) :
    Calls Tryz.prog 89 #[.pointer (some ⟨r, 0, none⟩), .string (txt n F), .int .i64 (v : Int), .int .i64 (bI b)] w fun e w' => ∃ S : ByteArray, e = .returned (.string S) ∧ (∀ G : (Int → Bool) → Bool, (∀ i, i < 2 ^ n → G (asgN n i) = F (asgN n (putBit i (n - 1 - v) b))) → S = txt n G) ∧ Keeps [] w w' := by
  obtain ⟨i0, hi0, hz0, hz1, hz2⟩ := info_parts info5
  have hml : 1000 < maxLen := by decide
  have hp8 : 2 ^ n ≤ 2 ^ 8 := Nat.pow_le_pow_right (by omega) hn8
  have hlen : ∀ ty (w : World), (Builtin.len_ #[9] ty #[.string (txt n F)]).run Tryz.prog w = .ok (goInt ((2 ^ n : Nat) : Int)) w := fun ty w => by rw [run_len_string w 9 ty (txt n F) Tryz.underlying9, txt_size]
  obtain ⟨S, hS⟩ : ∃ S, S = txt n F := ⟨_, rfl⟩
  obtain ⟨M, hM⟩ : ∃ M, M = 2 ^ n := ⟨_, rfl⟩
  obtain ⟨f, hf⟩ : ∃ f : Nat → Bool, f = fun i => F (asgN n (putBit i (n - 1 - v) b)) := ⟨_, rfl⟩
  have HI : Hid (∀ (i : Nat) (w : World), i < M → (Instr.index 9 (.string S) (.int .i64 (i : Int))).run Tryz.prog w = .ok (.int .u8 (bI (F (asgN n i)))) w) := fun i w hi => by rw [hS]; exact txt_index F (by omega) w
  rw [← hS] at hlen ⊢
  rw [← hM] at hlen hp8 ⊢
  have HM : Hid (M = 2 ^ n) := hM
  have Hf : Hid (f = fun i => F (asgN n (putBit i (n - 1 - v) b))) := hf
  have hM0 : 0 < M := by rw [hM]; exact Nat.two_pow_pos n
  clear hS hM hf
  obtain ⟨bv, hbv⟩ : ∃ bv, bv = bI b := ⟨_, rfl⟩
  rw [← hbv]
  have HBV : Hid (bv = bI b) := hbv
  clear hbv
  go_enter Tryz.func89, Tryz.ntmps89
  go_wp2_with fail
  go_loopw [9, 10] (fun o x wr => ∃ j : Nat, j ≤ M ∧ x = .int .i64 j ∧ wr.ownsRow w.heap.size 5 1 o j (bytesV f j) ∧ Keeps [] w wr) (fun _ x _ => M - (intOf x).toNat)
  case atStart => exact ⟨0, by omega, rfl, World.ownsRow_nil _ _ _ _, Keeps.refl _ _⟩
  case round =>
    obtain ⟨j, hj, rfl, hown, hk⟩ := hrel
    have hbase := hk.size
    by_cases hlt : j < M
    · have hj0 : (0 : Int) ≤ (j : Int) := by omega
      have hj1 : (j : Int) < (M : Int) := by omega
      have hjn : j < 2 ^ n := by rw [← HM.out]; exact hlt
      have hpl := putBit_lt hn8 hjn (show n - 1 - v < n by omega) b
      rw [← HM.out] at hpl
      obtain ⟨k, hkk⟩ : ∃ k, k = putBit j (n - 1 - v) b := ⟨_, rfl⟩
      have HK : Hid (k = putBit j (n - 1 - v) b) := hkk
      rw [← hkk] at hpl
      have i2 := fun w => HI.out k w hpl
      have hk0 : (0 : Int) ≤ (k : Int) := by omega
      have HFJ : Hid (bI (F (asgN n k)) = bI (f j)) := by show _ = _; rw [Hf.out, HK.out]
      have HW : Hid (∀ w' : World, w'.cell? ⟨r, 0, none⟩ = some (.int .i64 (n : Int)) → Calls Tryz.prog 90 #[.pointer (some ⟨r, 0, none⟩), .int .i64 (j : Int), .int .i64 (v : Int), .int .i64 bv] w' fun e w'' => e = .returned (.int .i64 (k : Int)) ∧ w' = w'') := fun w' hcw => by
        rw [HBV.out]
        refine (rwith_any hn8 hcw hjn hv b).mono ?_
        rintro e w'' ⟨rfl, rfl⟩
        rw [HK.out]
        exact ⟨rfl, rfl⟩
      clear hkk
      simp only [HFJ.out] at i2
      generalize hy : bI (f j) = y at *
      go_wp2_with (first
        | (go_at_call 90; refine (HW.out _ (hk.cell hc (by simp))).mono ?_; rintro e w1 ⟨rfl, rfl⟩)
        | (at_builtin; refine wpList_append_own_at _ rfl _ _ 111 rfl w.heap.size 5 i0 (.int .u8 0) 1 1 Tryz.underlying111 hi0 hz0 hz1 hz2 rfl (by decide) _ j (bytesV f j) rfl (hown.alloc _) ⟨wr.heap.size, 0, none⟩ 1 1 [.int .u8 y] rfl rfl (cell_one_new _ _ _) (by simp [Value.oneCell']) (by omega) (by omega) (by simp; omega) ?_; intro v' w1 hown' hgrow hnil hloc)
        | fail)
      go_roundw
      case rel =>
        refine ⟨j + 1, by omega, by go_num, ?_, ?_⟩
        · rw [bytesV_succ, hy]; exact hown'
        · exact (hk.alloc _).grown hgrow (fun k hk' => Or.inr (hown.lt k hk').1)
      case measure => simp [intOf]; omega
    · have e : j = M := by omega
      subst e
      obtain ⟨g, cap, hv', hbg, hlg⟩ : ∃ g cap, u9 = .slice (some ⟨g, 0, none⟩) j cap ∧ w.heap.size ≤ g ∧ g < wr.heap.size := by
        rcases hown.2 with ⟨_, h0⟩ | ⟨g, cap, cur, hv, hb', hg', _⟩
        · omega
        · exact ⟨g, cap, hv, hb', (Array.getElem?_eq_some_iff.1 hg').1⟩
      rw [hv'] at hown ⊢
      have hconv := bytes_back (f := f) (cap := cap) hown
      go_wp2_with fail
      go_ret
      refine ⟨_, rfl, fun G hG => ?_, hk⟩
      unfold byteText txt
      rw [← HM.out]
      congr 2
      refine List.map_congr_left (fun i hi => ?_)
      rw [hG i (by simpa using hi), Hf.out]

theorem bytes_ext {a b : ByteArray} (h : a.toList = b.toList) : a = b := by
  rw [ByteArray.toList_eq, ByteArray.toList_eq] at h
  cases a; cases b
  simp at h
  simp [h]

/-- a list of texts in memory -/
def Texts (w : World) (b o : Nat) (l : List ByteArray) : Prop := ∀ j (hj : j < l.length), w.cell? ⟨b, o + j, none⟩ = some (.string l[j])

set_option maxRecDepth 100000 in
set_option maxHeartbeats 1000000 in
theorem rin_any {w : World} {b o cap m : Nat} {l : List ByteArray} (hl : m = l.length) (hm : m < 1000000) (ht : Texts w b o l) (S : ByteArray) :
    Calls Tryz.prog 115 #[.slice (some ⟨b, o, none⟩) m cap, .string S] w fun e w' => (∃ v : Bool, e = .returned (.bool v) ∧ (v = true ↔ S ∈ l)) ∧ w = w' := by
  have HT : Hid (∀ j (hj : j < l.length), w.cell? ⟨b, o + j, none⟩ = some (.string l[j])) := ht
  have HL : Hid (m = l.length) := hl
  clear ht hl
  go_enter Tryz.func115, Tryz.ntmps115
  go_wp2_with fail
  go_loopw [5] (fun x wr => ∃ j : Nat, j ≤ m ∧ x = .int .i64 j ∧ (∀ i (hi : i < l.length), i < j → l[i] ≠ S) ∧ w = wr) (fun x _ => m - (intOf x).toNat)
  case atStart => exact ⟨0, by omega, rfl, fun i _ hi => by omega, rfl⟩
  case round =>
    obtain ⟨j, hj, rfl, hall, rfl⟩ := hrel
    by_cases hlt : j < m
    · have hj0 : (0 : Int) ≤ (j : Int) := by omega
      have hj1 : (j : Int) < (m : Int) := by omega
      have hjl : j < l.length := by rw [← HL.out]; exact hlt
      have hcj := HT.out j hjl
      obtain ⟨T, hT⟩ : ∃ T, T = l[j] := ⟨_, rfl⟩
      rw [← hT] at hcj
      have HTT : Hid (T = l[j]) := hT
      clear hT
      by_cases e : T = S
      · have e' : (T.toList == S.toList) = true := by rw [e]; exact beq_self_eq_true _
        have HE : Hid (T = S) := e
        clear e
        go_wp2_with fail
        go_ret
        refine ⟨⟨true, rfl, fun _ => ?_, fun _ => rfl⟩, by first | rfl | trivial⟩
        rw [← HE.out, HTT.out]
        exact List.getElem_mem _
      · have e' : (T.toList == S.toList) = false := by
          cases hb : (T.toList == S.toList) with
          | false => rfl
          | true => exact absurd (bytes_ext (eq_of_beq hb)) e
        have HE : Hid (T ≠ S) := e
        clear e
        go_wp2_with fail
        go_roundw
        case rel =>
          refine ⟨j + 1, by omega, by go_num, fun i hi hij => ?_, by first | rfl | trivial⟩
          by_cases ei : i = j
          · subst ei; rw [← HTT.out]; exact HE.out
          · exact hall i hi (by omega)
        case measure => simp [intOf]; omega
    · have e : j = m := by omega
      subst e
      go_wp2_with fail
      go_ret
      refine ⟨⟨false, rfl, ?_⟩, by first | rfl | trivial⟩
      constructor
      · intro h; cases h
      · intro h
        obtain ⟨i, hi, ei⟩ := List.getElem_of_mem h
        exact absurd ei (hall i hi (by rw [HL.out]; exact hi))

end Go.Proofs.YtmgjegokkbghlaaGreat

namespace Go.Proofs.YtmgjegokkbghlaaGreat
open Go.RowKit Go.Maps Bdd

/-- the number of an assignment -/
def numOf (a : Int → Bool) : Nat → Nat
  | 0 => 0
  | k + 1 => 2 * numOf a k + (a (k : Int)).toNat
theorem numOf_lt (a : Int → Bool) : ∀ k, numOf a k < 2 ^ k
  | 0 => by simp [numOf]
  | k + 1 => by
    have := numOf_lt a k
    simp only [numOf, Nat.pow_succ]
    cases a (k : Int) <;> simp <;> omega
theorem numOf_bit (a : Int → Bool) : ∀ k i : Nat, i < k → (numOf a k).testBit (k - 1 - i) = a i
  | 0, i, h => by omega
  | k + 1, i, h => by
    by_cases e : i = k
    · subst e
      simp only [numOf, Nat.add_sub_cancel, Nat.sub_self, Nat.testBit_zero]
      cases a (i : Int) <;> simp <;> omega
    · have e2 : k + 1 - 1 - i = (k - 1 - i) + 1 := by omega
      rw [e2, Nat.testBit_succ]
      have e3 : numOf a (k + 1) / 2 = numOf a k := by
        simp only [numOf]
        cases a (k : Int) <;> simp <;> omega
      rw [e3]
      exact numOf_bit a k i (by omega)
theorem asgN_num (a : Int → Bool) (n : Nat) {u : Int} (h0 : 0 ≤ u) (h1 : u < (n : Int)) : asgN n (numOf a n) u = a u := by
  obtain ⟨k, rfl⟩ := Int.eq_ofNat_of_zero_le h0
  unfold asgN
  rw [Int.toNat_natCast]
  exact numOf_bit a n k (by omega)

section
variable {N : Tab} {last : Int} {n : Nat}
/-- its text -/
def T (N : Tab) (o : Ord n) (x : Int) : ByteArray := txt n (FV N o x)

theorem put_lv (hn8 : n ≤ 8) (o : Ord n) {i : Nat} (hi : i < 2 ^ n) {k : Int} (h0 : 0 ≤ k) (h1 : k < (n : Int)) (b : Bool) : ∀ j, 0 ≤ j → j < (n : Int) → asgN n (putBit i (n - 1 - (o.at_ k).toNat) b) (o.at_ j) = setAt (fun j => asgN n i (o.at_ j)) k b j := by
  intro j j0 j1
  obtain ⟨a0, a1, a2⟩ := o.r1 k h0 h1
  obtain ⟨b0, b1, b2⟩ := o.r1 j j0 j1
  obtain ⟨v, hv⟩ := Int.eq_ofNat_of_zero_le a0
  rw [hv, Int.toNat_natCast, asg_put hn8 hi (by omega) b _ b0 b1]
  unfold setAt
  by_cases e : j = k
  · subst e; rw [if_pos hv, if_pos rfl]
  · rw [if_neg (fun e2 => e (by rw [← b2, e2, ← hv, a2])), if_neg e]
theorem every (o : Ord n) (a : Int → Bool) : ∃ i, i < 2 ^ n ∧ ∀ j, 0 ≤ j → j < (n : Int) → asgN n i (o.at_ j) = a j := by
  refine ⟨numOf (fun u => a (o.lv u)) n, numOf_lt _ _, fun j j0 j1 => ?_⟩
  obtain ⟨b0, b1, b2⟩ := o.r1 j j0 j1
  rw [asgN_num _ n b0 b1, b2]

theorem hangs_text (h : Wf N (n : Int) last) (hn8 : n ≤ 8) (o : Ord n) {k x : Int} (hx : Ok N k x) (h0 : 0 ≤ k) (h1 : k < (n : Int)) :
    (∃ i, i < 2 ^ n ∧ FV N o x (asgN n i) ≠ FV N o x (asgN n (putBit i (n - 1 - (o.at_ k).toNat) false))) ↔ lvl N x = k := by
  have hx0 := hx.mono h0
  rw [← hangs_iff h hx h0 (by omega)]
  have key : ∀ i, i < 2 ^ n → FV N o x (asgN n (putBit i (n - 1 - (o.at_ k).toNat) false)) = E N x (setAt (fun j => asgN n i (o.at_ j)) k false) := fun i hi =>
    E_below h hx0 _ _ (fun j j0 j1 => put_lv hn8 o hi h0 h1 false j j0 j1)
  constructor
  · rintro ⟨i, hi, hne⟩
    rw [key i hi] at hne
    refine ⟨fun j => asgN n i (o.at_ j), fun he => hne ?_⟩
    cases hv : asgN n i (o.at_ k) with
    | true =>
      have e : setAt (fun j => asgN n i (o.at_ j)) k true = fun j => asgN n i (o.at_ j) := by
        funext j; unfold setAt; by_cases ej : j = k
        · rw [if_pos ej, ej]; exact hv.symm
        · rw [if_neg ej]
      rw [← he, e]; rfl
    | false =>
      have e : setAt (fun j => asgN n i (o.at_ j)) k false = fun j => asgN n i (o.at_ j) := by
        funext j; unfold setAt; by_cases ej : j = k
        · rw [if_pos ej, ej]; exact hv.symm
        · rw [if_neg ej]
      rw [e]; rfl
  · rintro ⟨a, hne⟩
    obtain ⟨i, hi, ha⟩ := every o (setAt a k true)
    refine ⟨i, hi, ?_⟩
    rw [key i hi]
    have e1 : FV N o x (asgN n i) = E N x (setAt a k true) := E_below h hx0 _ _ (fun j j0 j1 => ha j j0 j1)
    have e2 : E N x (setAt (fun j => asgN n i (o.at_ j)) k false) = E N x (setAt a k false) := E_below h hx0 _ _ (fun j j0 j1 => by
      have := ha j j0 j1
      unfold setAt at this ⊢
      by_cases ej : j = k
      · rw [if_pos ej, if_pos ej]
      · rw [if_neg ej] at this; rw [if_neg ej, if_neg ej]; exact this)
    rw [e1, e2]; exact hne
theorem given_text (h : Wf N (n : Int) last) (hn8 : n ≤ 8) (o : Ord n) {k x : Int} (hx : Ok N k x) (h0 : 0 ≤ k) (h1 : k < (n : Int)) (b : Bool) :
    ∀ i, i < 2 ^ n → FV N o (part N x k b) (asgN n i) = FV N o x (asgN n (putBit i (n - 1 - (o.at_ k).toNat) b)) := by
  intro i hi
  show E N (part N x k b) _ = E N x _
  rw [part_given h hx b]
  exact (E_below h (hx.mono h0) _ _ (fun j j0 j1 => put_lv hn8 o hi h0 h1 b j j0 j1)).symm
theorem text_inj (h : Wf N (n : Int) last) (o : Ord n) {x y : Int} (hx : Ok N 0 x) (hy : Ok N 0 y) (e : T N o x = T N o y) : x = y := by
  refine (canon_iff h hx hy).2 (fun a => ?_)
  obtain ⟨i, hi, ha⟩ := every o a
  have h1 := txt_inj e i hi
  have e1 : E N x a = FV N o x (asgN n i) := E_below h hx _ _ (fun j j0 j1 => (ha j j0 j1).symm)
  have e2 : E N y a = FV N o y (asgN n i) := E_below h hy _ _ (fun j j0 j1 => (ha j j0 j1).symm)
  rw [e1, e2, h1]
end

end Go.Proofs.YtmgjegokkbghlaaGreat

namespace Go.Proofs.YtmgjegokkbghlaaGreat
open Go.RowKit Go.Maps Bdd
attribute [local go_sem ↓] Go.wp_at_zero Go.wp_at_succ

theorem info9 : (Tryz.prog.info? 9).map (fun i => (i.zero, i.size, i.bytes)) = some (some (.string ByteArray.empty), 1, 16) := by kernel_rfl

set_option maxRecDepth 100000 in
theorem rin_nil {w : World} (S : ByteArray) : Calls Tryz.prog 115 #[.slice none 0 0, .string S] w fun e w' => e = .returned (.bool false) ∧ w = w' := by
  go_enter Tryz.func115, Tryz.ntmps115
  go_wp2_with fail
  refine wp_loop_rounds 1 ?_
  rw [rounds_succ]
  go_wp2_with fail
  go_ret
  exact ⟨rfl, rfl⟩

/-- is it one of a list that the call has made? -/
theorem rin_own {w : World} {base m : Nat} {v : Value} {l : List ByteArray} (hl : m = l.length) (hm : m < 1000000) (hown : w.ownsRow base 9 1 v m (l.map Value.string)) (S : ByteArray) :
    Calls Tryz.prog 115 #[v, .string S] w fun e w' => (∃ b : Bool, e = .returned (.bool b) ∧ (b = true ↔ S ∈ l)) ∧ w = w' := by
  rcases hown.2 with ⟨rfl, h0⟩ | ⟨g, cap, cur, rfl, hb', hg', _⟩
  · refine (rin_nil S).mono ?_
    rintro e w' ⟨rfl, rfl⟩
    have : l = [] := List.length_eq_zero_iff.1 (by omega)
    subst this
    exact ⟨⟨false, rfl, by simp⟩, rfl⟩
  · refine rin_any hl hm (fun j hj => ?_) S
    rw [Nat.zero_add, hown.cellAt j (by omega)]
    simp [hj]

theorem once_snoc (acc : List Int) : ∀ (l : List Int) (x : Int), once acc (l ++ [x]) = if (once acc l).contains x then once acc l else once acc l ++ [x]
  | [], x => by simp [once]
  | y :: r, x => by
    rw [List.cons_append, once, once, once_snoc _ r x]
theorem once_length : ∀ (l acc : List Int), (once acc l).length ≤ acc.length + l.length
  | [], acc => by simp [once]
  | y :: r, acc => by
    rw [once]
    have := once_length r (if acc.contains y then acc else acc ++ [y])
    have h2 : (if acc.contains y then acc else acc ++ [y]).length ≤ acc.length + 1 := by split <;> simp
    simp only [List.length_cons]
    omega
theorem take_snoc {α : Type} {l : List α} {j : Nat} (h : j < l.length) : l.take (j + 1) = l.take j ++ [l[j]] := List.take_succ_eq_append_getElem h

section
variable {N : Tab} {last : Int} {n : Nat}
/-- a row of the texts of names -/
def Row (w : World) (base : Nat) (v : Value) (o : Ord n) (N : Tab) (nm : List Int) : Prop := w.ownsRow base 9 1 v nm.length ((nm.map (T N o)).map Value.string)
theorem Row.keeps {w w' : World} {base : Nat} {v : Value} {o : Ord n} {nm : List Int} {S : List Nat} (h : Row w base v o N nm) (hk : Keeps S w w') (hS : ∀ g, v.ownBlock = some g → g ∉ S) : Row w' base v o N nm := by
  refine ⟨h.1, ?_⟩
  rcases h.2 with h' | ⟨g, cap, cur, rfl, hb, hgg, rest⟩
  · exact .inl h'
  · refine .inr ⟨g, cap, cur, rfl, hb, ?_, rest⟩
    rw [hk.block g (Array.getElem?_eq_some_iff.1 hgg).1 (hS g rfl)]
    exact hgg
/-- a text is in the row just if its name is -/
theorem Row.has {w : World} {base : Nat} {v : Value} {o : Ord n} {nm : List Int} (h : Row w base v o N nm) (hw : Wf N (n : Int) last) (hok : ∀ y ∈ nm, Ok N 0 y) (hlen : nm.length < 1000000) {x : Int} (hx : Ok N 0 x) :
    Calls Tryz.prog 115 #[v, .string (T N o x)] w fun e w' => e = .returned (.bool (nm.contains x)) ∧ w = w' := by
  refine (rin_own (l := nm.map (T N o)) (by simp) hlen h (T N o x)).mono ?_
  rintro e w' ⟨⟨b, rfl, hb⟩, rfl⟩
  refine ⟨?_, rfl⟩
  congr 2
  have : T N o x ∈ nm.map (T N o) ↔ x ∈ nm := by
    constructor
    · intro hm
      obtain ⟨y, hy, e⟩ := List.mem_map.1 hm
      rw [← text_inj hw o (hok y hy) hx e]; exact hy
    · intro hm; exact List.mem_map.2 ⟨x, hm, rfl⟩
  rw [this] at hb
  cases hc : nm.contains x with
  | true => exact hb.2 (by simpa using hc)
  | false =>
    cases b with
    | false => rfl
    | true => have := hb.1 rfl; simp [this] at hc
/-- the text at a place -/
theorem Row.cell {w : World} {base : Nat} {v : Value} {o : Ord n} {nm : List Int} (h : Row w base v o N nm) {j : Nat} (hj : j < nm.length) : ∃ g cap, v = .slice (some ⟨g, 0, none⟩) nm.length cap ∧ base ≤ g ∧ g < w.heap.size ∧ w.cell? ⟨g, j, none⟩ = some (.string (T N o nm[j])) := by
  have hh := h
  rcases h.2 with ⟨_, h0⟩ | ⟨g, cap, cur, rfl, hb, hgg, rest⟩
  · omega
  · refine ⟨g, cap, rfl, hb, (Array.getElem?_eq_some_iff.1 hgg).1, ?_⟩
    rw [World.ownsRow.cellAt hh j (by omega)]
    simp [hj]
end

end Go.Proofs.YtmgjegokkbghlaaGreat
