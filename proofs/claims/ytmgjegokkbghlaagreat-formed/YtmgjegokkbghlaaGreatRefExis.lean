/- The document's store: Exists, Least, Size. -/
import Derived.Test.YtmgjegokkbghlaaGreatRefForm
namespace Go.Proofs.YtmgjegokkbghlaaGreat
open Go.RowKit Go.Maps Bdd
set_option linter.unusedVariables false
attribute [local go_sem ↓] Go.wp_at_zero Go.wp_at_succ

/-- numbers that came in -/
def IntsAt (w : World) (a : Option Addr) (n : Nat) (f : Nat → Int) : Prop := n = 0 ∨ ∃ vb vo, a = some ⟨vb, vo, none⟩ ∧ ∀ i, i < n → w.cell? ⟨vb, vo + i, none⟩ = some (.int .i64 (f i))
theorem IntsAt.keeps {w w' : World} {a : Option Addr} {n : Nat} {f : Nat → Int} (h : IntsAt w a n f) (hk : Keeps [] w w') : IntsAt w' a n f := by
  rcases h with h | ⟨vb, vo, e, h⟩
  · exact Or.inl h
  · exact Or.inr ⟨vb, vo, e, fun i hi => hk.cell (h i hi) (by simp)⟩

/-- true for some value of a variable -/
def ex1 (v : Int) (F : (Int → Bool) → Bool) : (Int → Bool) → Bool := fun a => F (setAt a v false) || F (setAt a v true)
/-- of each of the first variables of a list -/
def exs (f : Nat → Int) (F : (Int → Bool) → Bool) : Nat → (Int → Bool) → Bool
  | 0 => F
  | j + 1 => ex1 (f j) (exs f F j)

theorem ex1_text {n : Nat} (hn8 : n ≤ 8) {F : (Int → Bool) → Bool} (hF : ∀ a b, (∀ i, 0 ≤ i → i < (n : Int) → a i = b i) → F a = F b) {v : Nat} (hv : v < n) : ∀ i, i < 2 ^ n → ex1 (v : Int) F (asgN n i) = (F (asgN n (putBit i (n - 1 - v) false)) || F (asgN n (putBit i (n - 1 - v) true))) := by
  intro i hi
  unfold ex1
  rw [hF _ (asgN n (putBit i (n - 1 - v) false)) (fun u h0 h1 => (asg_put hn8 hi hv false u h0 h1).symm), hF _ (asgN n (putBit i (n - 1 - v) true)) (fun u h0 h1 => (asg_put hn8 hi hv true u h0 h1).symm)]
theorem ex1_dep {n : Nat} {F : (Int → Bool) → Bool} (hF : ∀ a b, (∀ i, 0 ≤ i → i < (n : Int) → a i = b i) → F a = F b) (v : Int) : ∀ a b, (∀ i, 0 ≤ i → i < (n : Int) → a i = b i) → ex1 v F a = ex1 v F b := by
  intro a b hab
  unfold ex1
  have key : ∀ x, F (setAt a v x) = F (setAt b v x) := fun x => hF _ _ (fun i h0 h1 => by
    unfold setAt
    by_cases e : i = v
    · rw [if_pos e, if_pos e]
    · rw [if_neg e, if_neg e]; exact hab i h0 h1)
  rw [key, key]
theorem exs_dep {n : Nat} {F : (Int → Bool) → Bool} (hF : ∀ a b, (∀ i, 0 ≤ i → i < (n : Int) → a i = b i) → F a = F b) (f : Nat → Int) : ∀ j, ∀ a b, (∀ i, 0 ≤ i → i < (n : Int) → a i = b i) → exs f F j a = exs f F j b
  | 0 => hF
  | j + 1 => ex1_dep (exs_dep hF f j) (f j)

set_option maxRecDepth 100000 in
set_option maxHeartbeats 1000000 in
theorem rexists_var {w : World} {r n m cap : Nat} {lv : Value} {hs : List (Int × ByteArray)} {va : Option Addr} {g : Nat → Int} (hc : w.cell? ⟨r, 0, none⟩ = some (.int .i64 (n : Int))) (hh : Held w r lv hs) (hl : hs.length ≤ 60) {f : Int} (hf : IsIn hs f = true) (hm : m ≤ 4611686018427387904) (hv : IntsAt w va m g) (hno : ∃ i, i < m ∧ ¬ (0 ≤ g i ∧ g i < (n : Int))) :
    Calls Tryz.prog 38 #[.pointer (some ⟨r, 0, none⟩), .int .i64 f, .slice va m cap] w fun e w' => e = .returned (.tuple #[.int .i64 0, .int .i64 3]) ∧ w = w' := by
  obtain ⟨S, hof⟩ := rof_in hh hl f
  rw [hf] at hof
  have hm' : (m : Int) ≤ 4611686018427387904 := by omega
  have HV : Hid (IntsAt w va m g) := hv
  have HNO : Hid (∃ i, i < m ∧ ¬ (0 ≤ g i ∧ g i < (n : Int))) := hno
  have HIS : Hid (∀ v : Int, Calls Tryz.prog 87 #[.pointer (some ⟨r, 0, none⟩), .int .i64 v] w fun e w' => e = .returned (.bool (decide (0 ≤ v ∧ v < (n : Int)))) ∧ w = w') := fun v => risvar_some hc v
  clear hh hf hv hno
  go_enter Tryz.func38, Tryz.ntmps38
  go_wp2_with fail
  refine hof.mono ?_
  rintro e w0 ⟨rfl, rfl⟩
  go_wp2_with fail
  go_loopw [10] (fun x wr => ∃ j : Nat, j ≤ m ∧ x = .int .i64 j ∧ (∀ i, i < j → 0 ≤ g i ∧ g i < (n : Int)) ∧ w = wr) (fun x _ => m - (intOf x).toNat)
  case atStart => exact ⟨0, by omega, rfl, fun i hi => by omega, rfl⟩
  case round =>
    obtain ⟨j, hj, rfl, hall, rfl⟩ := hrel
    by_cases hlt : j < m
    · have hj0 : (0 : Int) ≤ (j : Int) := by omega
      have hj1 : (j : Int) < (m : Int) := by omega
      obtain ⟨vb, vo, ea, hcs⟩ : ∃ vb vo, va = some ⟨vb, vo, none⟩ ∧ ∀ i, i < m → w.cell? ⟨vb, vo + i, none⟩ = some (.int .i64 (g i)) := by
        rcases HV.out with h | h
        · omega
        · exact h
      subst ea
      have p1 := hcs j hlt
      have hi := HIS.out (g j)
      have HALL : Hid (∀ i, i < j → 0 ≤ g i ∧ g i < (n : Int)) := hall
      have HGJ : Hid ((0 ≤ g j ∧ g j < (n : Int)) ∨ ¬ (0 ≤ g j ∧ g j < (n : Int))) := Classical.em _
      clear hcs hall
      go_wp2_with fail
      refine hi.mono ?_
      rintro e w1 ⟨rfl, rfl⟩
      rcases HGJ.out with hg | hg
      · rw [decide_eq_true hg]
        have HG2 : Hid (0 ≤ g j ∧ g j < (n : Int)) := hg
        clear hg
        go_wp2_with fail
        go_roundw
        case rel =>
          refine ⟨j + 1, by omega, by go_num, fun i hi' => ?_, by first | rfl | trivial⟩
          by_cases e : i = j
          · subst e; exact HG2.out
          · exact HALL.out i (by omega)
        case measure => simp [intOf]; omega
      · rw [decide_eq_false hg]
        clear hg
        go_wp2_with fail
        go_ret2
        exact ⟨rfl, by first | rfl | trivial⟩
    · exfalso
      obtain ⟨i, hi, hn⟩ := HNO.out
      exact hn (hall i (by omega))

set_option maxRecDepth 100000 in
set_option maxHeartbeats 4000000 in
theorem rexists_any {w : World} {r n m cap : Nat} {lv : Value} {hs : List (Int × ByteArray)} {va : Option Addr} {g : Nat → Int} (hn8 : n ≤ 8) (hc : w.cell? ⟨r, 0, none⟩ = some (.int .i64 (n : Int))) (hh : Held w r lv hs) (hl : hs.length ≤ 60) {f : Int} {F : (Int → Bool) → Bool} (hf : HasT n hs f F) (hF : ∀ a b, (∀ i, 0 ≤ i → i < (n : Int) → a i = b i) → F a = F b) (hm : m ≤ 4611686018427387904) (hv : IntsAt w va m g) (hall : ∀ i, i < m → 0 ≤ g i ∧ g i < (n : Int)) {R : Int → Int → World → Prop} (hhold : HoldsR w r (txt n (exs g F m)) R) :
    Calls Tryz.prog 38 #[.pointer (some ⟨r, 0, none⟩), .int .i64 f, .slice va m cap] w fun e w' => ∃ x y, e = .returned (.tuple #[.int .i64 x, .int .i64 y]) ∧ R x y w' := by
  obtain ⟨i5, hi5, hz0, hz1, hz2⟩ := info_parts infoByte
  have h256 : 2 ^ n ≤ 256 := by
    have : 2 ^ n ≤ 2 ^ 8 := Nat.pow_le_pow_right (by omega) hn8
    omega
  have HMB : Hid (∀ w : World, (Instr.makeSlice 111 (.int .i64 ((2 ^ n : Nat) : Int)) (.int .i64 ((2 ^ n : Nat) : Int))).run Tryz.prog w = .ok (.slice (some ⟨w.heap.size, 0, none⟩) (2 ^ n) (2 ^ n)) (w.alloc (.cells (fillV (.int .u8 0) (2 ^ n)) 5))) := make_bytes hi5 hz0 hz1 hz2 h256
  have HH : Hid (HoldsR w r (txt n (exs g F m)) R) := hhold
  obtain ⟨p, hf1, hf2⟩ := hf
  have hof := rof_some (n := n) (F := F) hh hl hf1 hf2
  have HIS : Hid (∀ v : Int, Calls Tryz.prog 87 #[.pointer (some ⟨r, 0, none⟩), .int .i64 v] w fun e w' => e = .returned (.bool (decide (0 ≤ v ∧ v < (n : Int)))) ∧ w = w') := fun v => risvar_some hc v
  obtain ⟨P, hP⟩ : ∃ P : Nat, P = 2 ^ n := ⟨_, rfl⟩
  have HSZ : Hid (∀ w1, w1.cell? ⟨r, 0, none⟩ = some (.int .i64 (n : Int)) → Calls Tryz.prog 84 #[.pointer (some ⟨r, 0, none⟩)] w1 fun e w' => e = .returned (.int .i64 (P : Int)) ∧ w1 = w') := fun w1 h1 => by rw [hP]; exact rsize_any hn8 h1
  rw [← hP] at HMB h256
  have HPP : Hid (P = 2 ^ n) := hP
  have hP0 : (0 : Int) ≤ (P : Int) := by omega
  have hP1 : (P : Int) ≤ 256 := by omega
  have hm' : (m : Int) ≤ 4611686018427387904 := by omega
  have HV : Hid (IntsAt w va m g) := hv
  have HALL : Hid (∀ i, i < m → 0 ≤ g i ∧ g i < (n : Int)) := hall
  have HD : Hid (∀ j, ∀ a b, (∀ i, 0 ≤ i → i < (n : Int) → a i = b i) → exs g F j a = exs g F j b) := exs_dep hF g
  have hlr : r < w.heap.size := cell_lt (p := ⟨r, 0, none⟩) hc
  have e0 : txt n F = txt n (exs g F 0) := rfl
  rw [e0] at hof
  have HOF : Hid (Calls Tryz.prog 42 #[.pointer (some ⟨r, 0, none⟩), .int .i64 f] w fun e w' => e = .returned (.tuple #[.string (txt n (exs g F 0)), .bool true]) ∧ w = w') := hof
  clear hhold hi5 hz0 hz1 hz2 hP hf1 hf2 hh hv hall hF hof e0
  go_enter Tryz.func38, Tryz.ntmps38
  go_wp2_with fail
  refine HOF.out.mono ?_
  rintro e w0 ⟨rfl, rfl⟩
  obtain ⟨S0, hS0⟩ : ∃ S0, S0 = txt n (exs g F 0) := ⟨_, rfl⟩
  rw [← hS0]
  have HS0 : Hid (S0 = txt n (exs g F 0)) := hS0
  clear hS0
  go_wp2_with fail
  go_loopw [10] (fun x wr => ∃ j : Nat, j ≤ m ∧ x = .int .i64 j ∧ w = wr) (fun x _ => m - (intOf x).toNat)
  case atStart => exact ⟨0, by omega, rfl, rfl⟩
  case round =>
    obtain ⟨j, hj, rfl, rfl⟩ := hrel
    by_cases hlt : j < m
    · have hj0 : (0 : Int) ≤ (j : Int) := by omega
      have hj1 : (j : Int) < (m : Int) := by omega
      obtain ⟨vb, vo, ea, hcs⟩ : ∃ vb vo, va = some ⟨vb, vo, none⟩ ∧ ∀ i, i < m → w.cell? ⟨vb, vo + i, none⟩ = some (.int .i64 (g i)) := by
        rcases HV.out with h | h
        · omega
        · exact h
      subst ea
      have p1 := hcs j hlt
      have hi := HIS.out (g j)
      rw [decide_eq_true (HALL.out j hlt)] at hi
      clear hcs
      go_wp2_with fail
      refine hi.mono ?_
      rintro e w1 ⟨rfl, rfl⟩
      go_wp2_with fail
      go_roundw
      case rel => exact ⟨j + 1, by omega, by go_num, by first | rfl | trivial⟩
      case measure => simp [intOf]; omega
    · have hj1 : (m : Int) ≤ (j : Int) := by omega
      go_wp2_with fail
      clear hlt hj1 hj
      go_loopw [8, 12] (fun s x wr => ∃ (j : Nat) (S : ByteArray), j ≤ m ∧ x = .int .i64 j ∧ s = .string S ∧ Hid (S = txt n (exs g F j)) ∧ Keeps [] w wr) (fun _ x _ => m - (intOf x).toNat)
      case atStart => exact ⟨0, S0, by omega, rfl, rfl, HS0.out, Keeps.refl _ _⟩
      case round =>
        clear HS0
        obtain ⟨j, S, hj, rfl, rfl, hS, hkw⟩ := hrel
        obtain ⟨w9, ew9⟩ : ∃ w9, w9 = wr := ⟨_, rfl⟩
        subst ew9
        have hcr := hkw.cell hc (by simp)
        by_cases hlt : j < m
        · have hj0 : (0 : Int) ≤ (j : Int) := by omega
          have hj1 : (j : Int) < (m : Int) := by omega
          obtain ⟨vb, vo, ea, hcs⟩ : ∃ vb vo, va = some ⟨vb, vo, none⟩ ∧ ∀ i, i < m → w.cell? ⟨vb, vo + i, none⟩ = some (.int .i64 (g i)) := by
            rcases HV.out with h | h
            · omega
            · exact h
          subst ea
          obtain ⟨v, hv⟩ := Int.eq_ofNat_of_zero_le (HALL.out j hlt).1
          have hvn : v < n := by have := (HALL.out j hlt).2; omega
          have p1 := hkw.cell (hcs j hlt) (by simp)
          rw [hv] at p1
          have HVJ : Hid (g j = (v : Int)) := hv
          have hlv : vb < w9.heap.size := cell_lt p1
          have hlr2 : r < w9.heap.size := cell_lt hcr
          clear hcs hv
          go_wp2_with fail
          refine (HSZ.out _ hcr).mono ?_
          rintro e w1 ⟨rfl, rfl⟩
          go_wp2_with (first
            | (at_make; refine wpList_make_at rfl _ _ 111 rfl (.int .i64 (P : Int)) (.int .i64 (P : Int)) _ rfl rfl (HMB.out _) ?_)
            | fail)
          obtain ⟨Y, hY⟩ : ∃ Y, Y = w9.alloc (Obj.cells (fillV (Value.int .u8 0) P) 5) := ⟨_, rfl⟩
          rw [← hY]
          have hkY : Keeps [] w9 Y := by rw [hY]; exact (Keeps.refl _ _).alloc _
          have HB2 : Hid (Bytes8 Y w9.heap.size P (fun i => if i < 0 then exs g F (j + 1) (asgN n i) else false)) := fun k hk => by
            rw [hY]
            exact ⟨cell_new w9 _ _ rfl (fillV_get _ hk), World.frozen?_alloc_at _ _ _ _ rfl⟩
          clear hY
          go_loopw [14] (fun i wq => ∃ q : Nat, q ≤ P ∧ i = .int .i64 q ∧ Hid (Bytes8 wq w9.heap.size P (fun i => if i < q then exs g F (j + 1) (asgN n i) else false)) ∧ Keeps [w9.heap.size] Y wq) (fun i _ => P - (intOf i).toNat)
          case atStart => exact ⟨0, by omega, rfl, HB2.out, Keeps.refl _ _⟩
          case round =>
            clear HB2
            obtain ⟨q, hq, rfl, hB, hkq⟩ := hrel
            have hcq := hkq.cell (hkY.cell hcr (by simp)) (by simp; omega)
            have pq := hkq.cell (hkY.cell p1 (by simp)) (by simp; omega)
            by_cases hlq : q < P
            · have hq0 : (0 : Int) ≤ (q : Int) := by omega
              have hq1 : (q : Int) < (P : Int) := by omega
              have b1 := (hB.out q hlq).1
              have b2 := (hB.out q hlq).2
              have hqn : q < 2 ^ n := by rw [← HPP.out]; exact hlq
              have hB' := hB.out.set (k := q) (f' := fun i => if i < q + 1 then exs g F (j + 1) (asgN n i) else false) (exs g F (j + 1) (asgN n q)) (by simp) (fun i _ hi => by
                by_cases hij : i < q
                · rw [if_pos hij, if_pos (by omega)]
                · rw [if_neg hij, if_neg (by omega)])
              have l0 := putBit_lt hn8 hqn (show n - 1 - v < n by omega) false
              have l1 := putBit_lt hn8 hqn (show n - 1 - v < n by omega) true
              have i0 := fun w => txt_index (exs g F j) l0 w
              have i1 := fun w => txt_index (exs g F j) l1 w
              rw [← hS.out] at i0 i1
              have hX : exs g F (j + 1) (asgN n q) = (exs g F j (asgN n (putBit q (n - 1 - v) false)) || exs g F j (asgN n (putBit q (n - 1 - v) true))) := by
                show ex1 (g j) (exs g F j) (asgN n q) = _
                rw [HVJ.out]
                exact ex1_text hn8 (HD.out j) hvn q hqn
              rw [hX] at hB'
              have c0 := rwith_any (w := wr) hn8 hcq hqn hvn false
              have c1 := rwith_any (w := wr) hn8 hcq hqn hvn true
              have w0' : Calls Tryz.prog 90 #[.pointer (some ⟨r, 0, none⟩), .int .i64 (q : Int), .int .i64 (v : Int), .int .i64 0] wr fun e w' => e = .returned (.int .i64 ((putBit q (n - 1 - v) false : Nat) : Int)) ∧ wr = w' := c0
              have w1' : Calls Tryz.prog 90 #[.pointer (some ⟨r, 0, none⟩), .int .i64 (q : Int), .int .i64 (v : Int), .int .i64 1] wr fun e w' => e = .returned (.int .i64 ((putBit q (n - 1 - v) true : Nat) : Int)) ∧ wr = w' := c1
              generalize putBit q (n - 1 - v) false = q0 at *
              generalize putBit q (n - 1 - v) true = q1 at *
              have k0 : (0 : Int) ≤ (q0 : Int) := by omega
              have k1 : (0 : Int) ≤ (q1 : Int) := by omega
              obtain ⟨x0, hx0⟩ : ∃ x0, x0 = exs g F j (asgN n q0) := ⟨_, rfl⟩
              obtain ⟨x1, hx1⟩ : ∃ x1, x1 = exs g F j (asgN n q1) := ⟨_, rfl⟩
              rw [← hx0] at i0 hB'
              rw [← hx1] at i1 hB'
              have HB' : Hid (Bytes8 (wr.setCell ⟨w9.heap.size, q, none⟩ (.int .u8 (if (x0 || x1) then 1 else 0))) w9.heap.size P (fun i => if i < q + 1 then exs g F (j + 1) (asgN n i) else false)) := hB'
              have HW0 := w0'
              have HW1 := w1'
              have ht := rtruth_any (w := wr) (x0 || x1)
              clear hB' hB hX c0 c1 w0' w1' hx0 hx1 l0 l1
              go_wp2_with fail
              refine HW0.mono ?_
              rintro e w2 ⟨rfl, rfl⟩
              go_wp2_with fail
              refine HW1.mono ?_
              rintro e w2 ⟨rfl, rfl⟩
              cases x0 <;> cases x1 <;> simp only [bI, Bool.or_true, Bool.or_false, if_true, Bool.or_self, Bool.false_eq_true, if_false] at i0 i1 ht HB' <;>
                (go_wp2_with fail
                 refine ht.mono ?_
                 rintro e w2 ⟨rfl, rfl⟩
                 go_wp2_with fail
                 go_roundw
                 case rel => exact ⟨q + 1, by omega, by go_num, HB'.out, hkq.setCell _ (Or.inl (by simp)) _⟩
                 case measure => simp [intOf]; omega)
            · have eq' : q = P := by omega
              subst eq'
              have hjj : ¬ (q : Int) < (q : Int) := by omega
              have hconv := (HPP.out ▸ hB.out : Bytes8 wr w9.heap.size (2 ^ n) (fun i => if i < 2 ^ n then exs g F (j + 1) (asgN n i) else false)).text (F := exs g F (j + 1)) (fun i hi => by simp only [hi, if_true]) (2 ^ n)
              rw [← HPP.out] at hconv
              have hkw2 : Keeps [] w wr := ((hkw.trans hkY).mono (by simp)).trans hkq |>.strike (fun i hi hlt2 => by simp at hi; subst hi; have := hkw.size; omega)
              obtain ⟨S1, hS1⟩ : ∃ S1, S1 = txt n (exs g F (j + 1)) := ⟨_, rfl⟩
              rw [← hS1] at hconv
              have HS1 : Hid (S1 = txt n (exs g F (j + 1))) := hS1
              clear hB hS1
              go_wp2_with fail
              go_roundw
              case rel => exact ⟨j + 1, S1, by omega, by go_num, rfl, HS1.out, hkw2⟩
              case measure => simp [intOf]; omega
        · have hj1 : (m : Int) ≤ (j : Int) := by omega
          have ej : j = m := by omega
          have hcall := HH.out w9 hkw
          rw [← ej, ← hS.out] at hcall
          clear ej
          go_wp2_with fail
          refine hcall.mono ?_
          rintro e w3 ⟨x, y, rfl, hR⟩
          go_wp2_with fail
          go_ret2
          exact ⟨x, y, rfl, hR⟩

end Go.Proofs.YtmgjegokkbghlaaGreat
