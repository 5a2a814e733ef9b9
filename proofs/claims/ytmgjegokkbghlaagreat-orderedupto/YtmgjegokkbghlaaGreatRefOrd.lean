/- The document's store: IsOrder, Count by any order, Reorder. Order whose list is its own; Reorder, whatever the list and the limit. The document's store: Taken, Sift. Order, Reorder, Sift of both stores, told plainly. -/
import Derived.Test.YtmgjegokkbghlaaGreatRefForm
import Derived.Test.YtmgjegokkbghlaaGreatPair
import Derived.Test.YtmgjegokkbghlaaGreatTurnSt
import Derived.Test.YtmgjegokkbghlaaGreatRefHold
import Derived.ArgAppend
import Derived.Test.YtmgjegokkbghlaaGreatPairF
namespace Go.Proofs.YtmgjegokkbghlaaGreat
open Go.RowKit Go.Maps Bdd
attribute [local go_sem ↓] Go.wp_at_zero Go.wp_at_succ
set_option linter.unusedVariables false

/-- how often a number stands among the first -/
def cntV (f : Nat → Int) (v : Int) : Nat → Nat
  | 0 => 0
  | m + 1 => cntV f v m + if f m = v then 1 else 0
theorem cntV_le (f : Nat → Int) (v : Int) : ∀ m, cntV f v m ≤ m
  | 0 => Nat.le_refl _
  | m + 1 => by have := cntV_le f v m; rw [cntV]; split <;> omega
theorem cntV_pos {f : Nat → Int} {v : Int} : ∀ {m : Nat}, 1 ≤ cntV f v m ↔ ∃ j, j < m ∧ f j = v
  | 0 => ⟨fun h => by simp [cntV] at h, fun ⟨j, h, _⟩ => by omega⟩
  | m + 1 => by
    have ih := cntV_pos (f := f) (v := v) (m := m)
    rw [cntV]
    constructor
    · intro h
      by_cases e : f m = v
      · exact ⟨m, by omega, e⟩
      · rw [if_neg e] at h
        obtain ⟨j, hj, e⟩ := ih.1 (by omega)
        exact ⟨j, by omega, e⟩
    · rintro ⟨j, hj, e⟩
      by_cases ej : j = m
      · subst ej; rw [if_pos e]; omega
      · have := ih.2 ⟨j, by omega, e⟩; omega
theorem cntV_two {f : Nat → Int} {v : Int} : ∀ {m : Nat} {j k : Nat}, j < k → k < m → f j = v → f k = v → 2 ≤ cntV f v m
  | 0, _, _, _, h, _, _ => by omega
  | m + 1, j, k, h1, h2, e1, e2 => by
    rw [cntV]
    by_cases ek : k = m
    · subst ek
      have := (cntV_pos (f := f) (v := v) (m := k)).2 ⟨j, h1, e1⟩
      rw [if_pos e2]; omega
    · have := cntV_two h1 (show k < m by omega) e1 e2
      omega
def sumV (f : Nat → Int) (m : Nat) : Nat → Nat
  | 0 => 0
  | n + 1 => sumV f m n + cntV f (n : Int) m
theorem sumV_succ (f : Nat → Int) (m : Nat) : ∀ n, sumV f (m + 1) n = sumV f m n + if 0 ≤ f m ∧ f m < (n : Int) then 1 else 0
  | 0 => by rw [if_neg (by omega)]; rfl
  | n + 1 => by
    rw [sumV, sumV_succ f m n, sumV, cntV]
    by_cases h : 0 ≤ f m ∧ f m < (n : Int)
    · rw [if_pos h, if_neg (by omega), if_pos (by omega)]; omega
    · rw [if_neg h]
      by_cases e : f m = (n : Int)
      · rw [if_pos e, if_pos (by omega)]; omega
      · rw [if_neg e, if_neg (by omega)]; omega
theorem sumV_le (f : Nat → Int) (n : Nat) : ∀ m, sumV f m n ≤ m
  | 0 => by
    have : ∀ n, sumV f 0 n = 0 := fun n => by induction n with
      | zero => rfl
      | succ n ih => rw [sumV, ih]; rfl
    rw [this]; exact Nat.le_refl _
  | m + 1 => by have := sumV_le f n m; rw [sumV_succ]; split <;> omega
theorem sumV_out {f : Nat → Int} {n k : Nat} (hk : ¬ (0 ≤ f k ∧ f k < (n : Int))) : ∀ {m : Nat}, k < m → sumV f m n + 1 ≤ m
  | 0, h => by omega
  | m + 1, h => by
    rw [sumV_succ]
    by_cases e : k = m
    · subst e; rw [if_neg hk]; have := sumV_le f n k; omega
    · have := sumV_out hk (show k < m by omega); split <;> omega
theorem sumV_ge {f : Nat → Int} {m : Nat} : ∀ {n : Nat}, (∀ v : Nat, v < n → 1 ≤ cntV f (v : Int) m) → n ≤ sumV f m n
  | 0, _ => Nat.zero_le _
  | n + 1, h => by
    have := sumV_ge (n := n) (fun v hv => h v (by omega))
    have := h n (by omega)
    rw [sumV]; omega
theorem sumV_two {f : Nat → Int} {m u : Nat} (hu : 2 ≤ cntV f (u : Int) m) : ∀ {n : Nat}, u < n → (∀ v : Nat, v < n → 1 ≤ cntV f (v : Int) m) → n + 1 ≤ sumV f m n
  | 0, h, _ => by omega
  | n + 1, hn, h => by
    rw [sumV]
    by_cases e : u = n
    · subst e
      have := sumV_ge (n := u) (fun v hv => h v (by omega)); omega
    · have := sumV_two hu (show u < n by omega) (fun v hv => h v (by omega))
      have := h n (by omega)
      omega
/-- a list that is an order: all variables, each once -/
def GoodO (n m : Nat) (f : Nat → Int) : Prop := m = n ∧ ∀ v : Nat, v < n → ∃ j, j < n ∧ f j = (v : Int)
theorem GoodO.one {n m : Nat} {f : Nat → Int} (h : GoodO n m f) : ∀ v : Nat, v < n → cntV f (v : Int) m = 1 := by
  obtain ⟨rfl, h⟩ := h
  intro v hv
  have h1 : ∀ v : Nat, v < m → 1 ≤ cntV f (v : Int) m := fun v hv => cntV_pos.2 (h v hv)
  have h2 := h1 v hv
  have h3 := sumV_le f m m
  by_cases h4 : 2 ≤ cntV f (v : Int) m
  · have := sumV_two h4 hv h1; omega
  · omega
theorem goodO_iff {n m : Nat} {f : Nat → Int} : GoodO n m f ↔ m = n ∧ ∀ v : Nat, v < n → cntV f (v : Int) m = 1 :=
  ⟨fun h => ⟨h.1, h.one⟩, fun h => ⟨h.1, fun v hv => by have := h.2 v hv; obtain ⟨j, h1, h2⟩ := cntV_pos.1 (Nat.le_of_eq this.symm); exact ⟨j, by omega, h2⟩⟩⟩
theorem GoodO.range {n m : Nat} {f : Nat → Int} (h : GoodO n m f) {k : Nat} (hk : k < n) : 0 ≤ f k ∧ f k < (n : Int) := by
  obtain ⟨rfl, h⟩ := h
  by_cases hc : 0 ≤ f k ∧ f k < (m : Int)
  · exact hc
  · have h1 := sumV_out hc hk
    have h2 := sumV_ge (f := f) (m := m) (n := m) (fun v hv => cntV_pos.2 (h v hv))
    omega
theorem GoodO.inj {n m : Nat} {f : Nat → Int} (h : GoodO n m f) {j k : Nat} (hj : j < n) (hk : k < n) (e : f j = f k) : j = k := by
  have h1 := h.range hj
  obtain ⟨v, hv⟩ := Int.eq_ofNat_of_zero_le h1.1
  have h2 := h.one v (by omega)
  have hm := h.1
  rcases Nat.lt_trichotomy j k with h3 | h3 | h3
  · have := cntV_two (f := f) (v := (v : Int)) h3 (show k < m by omega) hv (by rw [← e]; exact hv); omega
  · exact h3
  · have := cntV_two (f := f) (v := (v : Int)) h3 (show j < m by omega) (by rw [← e]; exact hv) hv; omega

set_option maxRecDepth 100000 in
set_option maxHeartbeats 1000000 in
theorem risorder_any {w : World} {r n m cap : Nat} {a : Option Addr} {f : Nat → Int} (hn8 : n ≤ 8) (hc : w.cell? ⟨r, 0, none⟩ = some (.int .i64 (n : Int))) (hm : m < 4611686018427387904) (ha : IntsAt w a m f) :
    Calls Tryz.prog 96 #[.pointer (some ⟨r, 0, none⟩), .slice a m cap] w fun e w' => ∃ b : Bool, e = .returned (.bool b) ∧ (b = true ↔ GoodO n m f) ∧ Keeps [] w w' := by
  have HA : Hid (IntsAt w a m f) := ha
  clear ha
  go_enter Tryz.func96, Tryz.ntmps96
  go_wp2_with fail
  go_loopw [5] (fun s5 wx => ∃ v : Nat, v ≤ n ∧ s5 = .int .i64 v ∧ Hid (∀ u : Nat, u < v → cntV f (u : Int) m = 1) ∧ Keeps [] w wx) (fun s5 _ => n - (intOf s5).toNat)
  case atStart => exact ⟨0, by omega, rfl, fun u hu => by omega, Keeps.refl _ _⟩
  case round =>
    obtain ⟨v, hv, rfl, hA, hk⟩ := hrel
    have c0 := hk.cell hc (by simp)
    by_cases hlt : v < n
    · have hv0 : (0 : Int) ≤ (v : Int) := by omega
      have hv1 : (v : Int) < (n : Int) := by omega
      obtain ⟨wA, rfl⟩ : ∃ wA, wA = wr := ⟨wr, rfl⟩
      go_wp2_with fail
      go_loopw [6, 7] (fun s6 s7 wx => ∃ j x : Nat, j ≤ m ∧ x ≤ j ∧ s7 = .int .i64 j ∧ s6 = .int .i64 x ∧ Hid (x = cntV f (v : Int) j) ∧ Keeps [] w wx) (fun _ s7 _ => m - (intOf s7).toNat)
      case atStart => exact ⟨0, 0, by omega, by omega, rfl, rfl, rfl, hk⟩
      case round =>
        clear hk c0
        obtain ⟨j, x, hj, hxj, rfl, rfl, hX, hk⟩ := hrel
        by_cases hjm : j < m
        · have hj0 : (0 : Int) ≤ (j : Int) := by omega
          have hj1 : (j : Int) < (m : Int) := by omega
          obtain ⟨vb, vo, ea, hvs⟩ : ∃ vb vo, a = some ⟨vb, vo, none⟩ ∧ ∀ i, i < m → w.cell? ⟨vb, vo + i, none⟩ = some (.int .i64 (f i)) := by
            rcases HA.out with h | h
            · omega
            · exact h
          subst ea
          have p1 := hk.cell (hvs j hjm) (by simp)
          obtain ⟨y, hy⟩ : ∃ y, y = f j := ⟨_, rfl⟩
          rw [← hy] at p1
          have HY : Hid (y = f j) := hy
          clear hy hvs
          by_cases hyv : y = (v : Int)
          · go_wp2_with fail
            go_roundw
            case rel => exact ⟨j + 1, x + 1, by omega, by omega, by go_num, by go_num, (by show _ = _; rw [cntV, ← HY.out, if_pos hyv, hX.out]), hk⟩
            case measure => simp [intOf]; omega
          · go_wp2_with fail
            go_roundw
            case rel => exact ⟨j + 1, x, by omega, by omega, by go_num, rfl, (by show _ = _; rw [cntV, ← HY.out, if_neg hyv, hX.out, Nat.add_zero]), hk⟩
            case measure => simp [intOf]; omega
        · have ej : j = m := by omega
          subst ej
          by_cases hx1 : x = 1
          · have hx1' : (x : Int) = 1 := by omega
            go_wp2_with fail
            go_roundw
            case rel => exact ⟨v + 1, by omega, by go_num, fun u hu => if e : u = v then by subst e; rw [← hX.out]; exact hx1 else hA.out u (by omega), hk⟩
            case measure => simp [intOf]; omega
          · have hx1' : ¬ (x : Int) = 1 := by omega
            go_wp2_with fail
            go_ret
            exact ⟨false, rfl, ⟨fun h => absurd h (by simp), fun h => absurd (h.one v hlt) (by rw [← hX.out]; exact hx1)⟩, hk⟩
    · have ev : v = n := by omega
      subst ev
      by_cases hmn : m = v
      · have hmn' : (m : Int) = (v : Int) := by omega
        go_wp2_with fail
        go_ret
        exact ⟨true, rfl, ⟨fun _ => goodO_iff.2 ⟨hmn, hA.out⟩, fun _ => rfl⟩, hk⟩
      · have hmn' : ¬ (m : Int) = (v : Int) := by omega
        go_wp2_with fail
        go_ret
        exact ⟨_, rfl, ⟨fun h => absurd (by simpa using h) hmn', fun h => absurd h.1 hmn⟩, hk⟩

set_option maxRecDepth 100000 in
set_option maxHeartbeats 1000000 in
theorem rcount_nil2 {w : World} {r n ob oo ocap fcap : Nat} {a : Option Addr} {o : Ord n} (hn8 : n ≤ 8) (hc : w.cell? ⟨r, 0, none⟩ = some (.int .i64 (n : Int))) (ho : ∀ k : Nat, k < n → w.cell? ⟨ob, oo + k, none⟩ = some (.int .i64 (o.at_ (k : Int)))) :
    Calls Tryz.prog 97 #[.pointer (some ⟨r, 0, none⟩), .slice a 0 fcap, .slice (some ⟨ob, oo, none⟩) n ocap] w fun e w' => e = .returned (.int .i64 0) ∧ w = w' := by
  have HO : Hid (∀ k : Nat, k < n → w.cell? ⟨ob, oo + k, none⟩ = some (.int .i64 (o.at_ (k : Int)))) := ho
  clear ho
  go_enter Tryz.func97, Tryz.ntmps97
  go_wp2_with fail
  go_loopw [8, 9] (fun v x wr => x = .int .i64 0 ∧ v = .slice none 0 0 ∧ w = wr) (fun _ _ _ => 0)
  case atStart => exact ⟨rfl, rfl, rfl⟩
  case round =>
    obtain ⟨rfl, rfl, rfl⟩ := hrel
    go_wp2_with fail
    go_loopw [7, 8, 11] (fun c v x wr => ∃ k : Nat, k ≤ n ∧ x = .int .i64 k ∧ c = .int .i64 0 ∧ v = .slice none 0 0 ∧ w = wr) (fun _ _ x _ => n - (intOf x).toNat)
    case atStart => exact ⟨0, by omega, rfl, rfl, rfl, rfl⟩
    case round =>
      obtain ⟨k, hk, rfl, rfl, rfl, rfl⟩ := hrel
      by_cases hlt : k < n
      · have hk0 : (0 : Int) ≤ (k : Int) := by omega
        have hk1 : (k : Int) < (n : Int) := by omega
        have h1 := HO.out k hlt
        go_wp2_with fail
        go_loopw [7, 13, 14] (fun c v x wr => c = .int .i64 0 ∧ v = .slice none 0 0 ∧ x = .int .i64 0 ∧ w = wr) (fun _ _ _ _ => 0)
        case atStart => exact ⟨rfl, rfl, rfl, rfl⟩
        case round =>
          obtain ⟨rfl, rfl, rfl, rfl⟩ := hrel
          go_wp2_with fail
          go_roundw
          case rel => exact ⟨k + 1, by omega, by go_num, rfl, rfl, by first | rfl | trivial⟩
          case measure => simp [intOf]; omega
      · have e : k = n := by omega
        subst e
        go_wp2_with fail
        go_ret
        exact ⟨rfl, by first | rfl | trivial⟩


theorem rcount_by {w : World} {r : Nat} {A : Abs} {ov lv : Value} (hA : AbsOk A) (h : RS w r A ov lv) {d : Int → Int} {sz : Nat} (hc : Cnts A.n d (Vof A.fs) sz) :
    (∀ w0 : World, Keeps [] w w0 → Calls Tryz.prog 98 #[.pointer (some ⟨r, 0, none⟩)] w0 fun e w' => ∃ v, e = .returned v ∧ w'.ownsRow w.heap.size 9 1 v A.fs.length (texts (hsOf A.n A.fs)) ∧ Keeps [] w w') ∧
    (∀ (w1 : World) (v : Value) (ob oo ocap : Nat), Keeps [] w w1 → w1.ownsRow w.heap.size 9 1 v A.fs.length (texts (hsOf A.n A.fs)) → (∀ k : Nat, k < A.n → w1.cell? ⟨ob, oo + k, none⟩ = some (.int .i64 (d (k : Int)))) → Calls Tryz.prog 97 #[.pointer (some ⟨r, 0, none⟩), v, .slice (some ⟨ob, oo, none⟩) A.n ocap] w1 fun e w' => e = .returned (.int .i64 (sz : Int)) ∧ Keeps [] w1 w') := by
  obtain ⟨o, ho, hR⟩ := h
  have hl60 := hA.len
  refine ⟨fun w0 hk => ?_, fun w1 v ob oo ocap hk hown hord => ?_⟩
  · refine (rall_any (hR.held.keeps hk (by simp) (by simp)) (by rw [hsOf_length]; omega)).mono ?_
    rintro e w' ⟨v, rfl, ho, hk'⟩
    rw [hsOf_length] at ho
    exact ⟨v, rfl, row_mono ho hk.size, hk.trans hk'⟩
  · obtain ⟨N, last, od, g, hw, hg, hcount, hod⟩ := hc.names hA.nd (by omega)
    have hord' : ∀ k : Nat, k < A.n → w1.cell? ⟨ob, oo + k, none⟩ = some (.int .i64 (od.at_ (k : Int))) := fun k hk => by rw [hord k hk, hod k (by omega) (by omega)]
    have e1 : hT N od (A.fs.map fun p => (p.1, g p.1)) = hsOf A.n A.fs := by
      unfold hT hsOf T
      rw [List.map_map]
      refine List.map_congr_left (fun p hp => ?_)
      simp only [Function.comp]
      rw [(hg p hp).2]
    have e2 : texts (hsOf A.n A.fs) = ((A.fs.map fun p => g p.1).map (T N od)).map Value.string := by
      rw [← e1, hT_texts, List.map_map (f := fun p : Int × Fun => (p.1, g p.1))]
      rfl
    have hown' := hown
    rw [e2] at hown'
    rcases Nat.eq_zero_or_pos A.fs.length with h0 | h0
    · obtain ⟨a, cap', rfl⟩ : ∃ a cap', v = .slice a 0 cap' := by
        rcases hown.2 with ⟨rfl, _⟩ | ⟨g, cap', cur, rfl, hb, hgg, rest⟩
        · exact ⟨none, 0, rfl⟩
        · exact ⟨_, cap', by rw [h0]⟩
      refine (rcount_nil2 (o := od) hA.n8 (hk.cell hR.c0 (by simp)) hord').mono ?_
      rintro e2 w2 ⟨rfl, rfl⟩
      refine ⟨?_, Keeps.refl _ _⟩
      rw [hcount, List.length_eq_zero_iff.1 h0]
      simp [once, total_nil]
    · rcases hown.2 with ⟨_, h1⟩ | ⟨g1, cap', cur, rfl, hb, hgg, rest⟩
      · omega
      · refine (rcount_any (n := A.n) (nm := A.fs.map fun p => g p.1) hw hA.n8 od (hk.cell hR.c0 (by simp)) (by simp) h0 (by omega) ?_ ?_ hord').mono ?_
        · intro z hz
          obtain ⟨p, hp, rfl⟩ := List.mem_map.1 hz
          exact (hg p hp).1
        · intro j hj
          rw [World.ownsRow.cellAt hown' j (by simp at hj; omega)]
          simp only [List.getElem?_map, List.getElem?_eq_getElem (by simpa using hj : j < A.fs.length), Option.map_some, List.getElem_map]
        · rintro e w2 ⟨rfl, hk2⟩
          rw [hcount]
          exact ⟨rfl, hk2⟩

/-- the order that a list tells -/
def ordF (f : Nat → Int) (k : Int) : Int := f k.toNat

set_option maxRecDepth 100000 in
set_option maxHeartbeats 1000000 in
theorem rreorder_bad {w : World} {r n m cap : Nat} {a : Option Addr} {f : Nat → Int} (hn8 : n ≤ 8) (hc : w.cell? ⟨r, 0, none⟩ = some (.int .i64 (n : Int))) (hm : m < 4611686018427387904) (ha : IntsAt w a m f) (hbad : ¬ GoodO n m f) :
    Calls Tryz.prog 44 #[.pointer (some ⟨r, 0, none⟩), .slice a m cap] w fun e w' => e = .returned (.int .i64 6) ∧ Keeps [] w w' := by
  have hc1 := risorder_any (cap := cap) hn8 hc hm ha
  have HB : Hid (¬ GoodO n m f) := hbad
  clear ha hbad
  go_enter Tryz.func44, Tryz.ntmps44
  go_wp2_with fail
  refine hc1.mono ?_
  rintro e w1 ⟨b, rfl, hb, hk⟩
  have hbf : b = false := by
    cases b with
    | false => rfl
    | true => exact absurd (hb.1 rfl) HB.out
  subst hbf
  clear hb hc1
  go_wp2_with fail
  go_ret
  exact ⟨rfl, hk⟩

set_option maxRecDepth 100000 in
set_option maxHeartbeats 1000000 in
theorem rreorder_full {w : World} {r cap sz : Nat} {A : Abs} {ov lv : Value} {a : Option Addr} {f : Nat → Int} (hA : AbsOk A) (h : RS w r A ov lv) (ha : IntsAt w a A.n f) (hg : GoodO A.n A.n f) (hs : Cnts A.n (ordF f) (Vof A.fs) sz) (hlim : A.lim < (sz : Int)) :
    Calls Tryz.prog 44 #[.pointer (some ⟨r, 0, none⟩), .slice a A.n cap] w fun e w' => e = .returned (.int .i64 5) ∧ Keeps [] w w' := by
  have hn8 := hA.n8
  have hn1 := hA.n1
  obtain ⟨hall, hcnt⟩ := rcount_by hA h hs
  obtain ⟨c0, c1⟩ : w.cell? ⟨r, 0, none⟩ = some (.int .i64 (A.n : Int)) ∧ w.cell? ⟨r, 1, none⟩ = some (.int .i64 A.lim) := by obtain ⟨o, _, hR⟩ := h; exact ⟨hR.c0, hR.c1⟩
  obtain ⟨vb, vo, ea, hv⟩ : ∃ vb vo, a = some ⟨vb, vo, none⟩ ∧ ∀ i, i < A.n → w.cell? ⟨vb, vo + i, none⟩ = some (.int .i64 (f i)) := by
    rcases ha with h | h
    · omega
    · exact h
  have hc1 := risorder_any (cap := cap) hn8 c0 (by omega) ha
  subst ea
  have HALL : Hid (∀ w0 : World, Keeps [] w w0 → Calls Tryz.prog 98 #[.pointer (some ⟨r, 0, none⟩)] w0 fun e w' => ∃ v, e = .returned v ∧ w'.ownsRow w.heap.size 9 1 v A.fs.length (texts (hsOf A.n A.fs)) ∧ Keeps [] w w') := hall
  have HCNT : Hid (∀ (w1 : World) (v : Value), Keeps [] w w1 → w1.ownsRow w.heap.size 9 1 v A.fs.length (texts (hsOf A.n A.fs)) → Calls Tryz.prog 97 #[.pointer (some ⟨r, 0, none⟩), v, .slice (some ⟨vb, vo, none⟩) A.n cap] w1 fun e w' => e = .returned (.int .i64 (sz : Int)) ∧ Keeps [] w1 w') := fun w1 v hk ho => hcnt w1 v vb vo cap hk ho (fun k hk' => by rw [ordF, Int.toNat_natCast]; exact hk.cell (hv k hk') (by simp))
  have HG : Hid (GoodO A.n A.n f) := hg
  obtain ⟨n, hn⟩ : ∃ n, n = A.n := ⟨_, rfl⟩
  obtain ⟨lim, hl⟩ : ∃ lim, lim = A.lim := ⟨_, rfl⟩
  rw [← hn] at HALL HCNT HG hc1 hn8 hn1 c0 ⊢
  rw [← hl] at hlim c1
  clear hall hcnt hs h ha hg hv hn hl hA
  go_enter Tryz.func44, Tryz.ntmps44
  go_wp2_with fail
  refine hc1.mono ?_
  rintro e w1 ⟨b, rfl, hb, hk1⟩
  have hbt : b = true := hb.2 HG.out
  subst hbt
  clear hb hc1
  go_wp2_with fail
  refine (HALL.out _ hk1).mono ?_
  rintro e w2 ⟨v, rfl, hown, hk2⟩
  have hc3 := HCNT.out _ _ hk2 hown
  obtain ⟨g2, l2, cap2, rfl⟩ : ∃ g2 l2 cap2, v = .slice g2 l2 cap2 := by
    rcases hown.2 with ⟨rfl, _⟩ | ⟨g, cap', cur, rfl, hb, hgg, rest⟩
    · exact ⟨_, _, _, rfl⟩
    · exact ⟨_, _, _, rfl⟩
  clear hown
  go_wp2_with fail
  refine hc3.mono ?_
  rintro e w3 ⟨rfl, hk4⟩
  have k4 := hk2.trans hk4
  have c1'' := k4.cell c1 (by simp)
  go_wp2_with fail
  go_ret
  exact ⟨rfl, k4⟩

noncomputable def GoodO.lv {n : Nat} {f : Nat → Int} (h : GoodO n n f) (u : Int) : Int := open Classical in if h' : 0 ≤ u ∧ u < (n : Int) then ((Classical.choose (h.2 u.toNat (by omega)) : Nat) : Int) else 0
theorem GoodO.lv_is {n : Nat} {f : Nat → Int} (h : GoodO n n f) {u : Int} (h0 : 0 ≤ u) (h1 : u < (n : Int)) : ∃ j : Nat, h.lv u = (j : Int) ∧ j < n ∧ f j = u := by
  have h' : 0 ≤ u ∧ u < (n : Int) := ⟨h0, h1⟩
  have hs := Classical.choose_spec (h.2 u.toNat (by omega))
  refine ⟨_, by rw [GoodO.lv, dif_pos h'], hs.1, ?_⟩
  rw [hs.2]; omega
/-- the order both ways -/
noncomputable def GoodO.ord {n : Nat} {f : Nat → Int} (h : GoodO n n f) : Ord n where
  at_ := ordF f
  lv := h.lv
  r1 k h0 h1 := by
    obtain ⟨a0, a1⟩ := h.range (show k.toNat < n by omega)
    obtain ⟨j, e, hj, hf⟩ := h.lv_is a0 a1
    refine ⟨a0, a1, ?_⟩
    show h.lv (f k.toNat) = k
    rw [e, h.inj hj (show k.toNat < n by omega) hf]
    omega
  r2 u h0 h1 := by
    obtain ⟨j, e, hj, hf⟩ := h.lv_is h0 h1
    rw [e]
    exact ⟨by omega, by omega, by rw [ordF, Int.toNat_natCast, hf]⟩
def rowF (n : Nat) (f : Nat → Int) : List Value := (List.range n).map fun k : Nat => .int .i64 (f k)
/-- another order told -/
theorem RS.turned {w w4 : World} {r g cap base : Nat} {A : Abs} {ov lv : Value} {f : Nat → Int} (h : RS w r A ov lv) (hk : Keeps [] w w4) (hg : GoodO A.n A.n f) (hgl : w.heap.size ≤ g) (hrow : w4.ownsRow base 3 1 (.slice (some ⟨g, 0, none⟩) A.n cap) A.n (rowF A.n f)) :
    RS (w4.setCell ⟨r, 3, none⟩ (.slice (some ⟨g, 0, none⟩) A.n cap)) r { A with o := ordF f } (.slice (some ⟨g, 0, none⟩) A.n cap) lv := by
  have hr := h.lr
  have hl := h.ll
  obtain ⟨o, ho, hR⟩ := h
  have k5 : Keeps [r] w4 (w4.setCell ⟨r, 3, none⟩ (.slice (some ⟨g, 0, none⟩) A.n cap)) := (Keeps.refl _ _).setCell _ (Or.inl (by simp)) _
  have hh := hR.held.keeps hk (by simp) (by simp)
  refine ⟨hg.ord, fun k _ _ => rfl, ⟨?_, ?_, ?_, ?_, fun j => ?_, ⟨?_, ?_⟩, ⟨g, cap, rfl, by omega, fun e => by have := hl g e; omega, fun k hk' => ?_⟩, hR.lr⟩⟩
  · exact (World.cell?_setCell_other _ _ _ _ (by simp)).trans (hk.cell hR.c0 (by simp))
  · exact (World.cell?_setCell_other _ _ _ _ (by simp)).trans (hk.cell hR.c1 (by simp))
  · exact (World.cell?_setCell_other _ _ _ _ (by simp)).trans (hk.cell hR.c2 (by simp))
  · exact World.cell?_setCell_same _ _ _ (hk.cell hR.c3 (by simp))
  · rw [World.frozen?_setCell]; exact (hk.frozen (p := ⟨r, j, none⟩) hr (by simp)).trans (hR.fr j)
  · exact (World.cell?_setCell_other _ _ _ _ (by simp)).trans (hh.c4)
  · exact ownsRow_setCell_other hh.own (fun e => hR.lr e) _
  · rw [World.cell?_setCell_far _ _ _ _ (by simp; omega), Nat.zero_add, hrow.cellAt k (by simpa using hk')]
    simp only [rowF]
    have hk'' : k < A.n := hk'
    simp [hk'', GoodO.ord, ordF]

set_option maxRecDepth 100000 in
set_option maxHeartbeats 1000000 in
theorem rreorder_ok {w : World} {r cap sz : Nat} {A : Abs} {ov lv : Value} {a : Option Addr} {f : Nat → Int} (hA : AbsOk A) (h : RS w r A ov lv) (ha : IntsAt w a A.n f) (hg : GoodO A.n A.n f) (hs : Cnts A.n (ordF f) (Vof A.fs) sz) (hlim : (sz : Int) ≤ A.lim) :
    Calls Tryz.prog 44 #[.pointer (some ⟨r, 0, none⟩), .slice a A.n cap] w fun e w' => e = .returned (.int .i64 0) ∧ Keeps [r] w w' ∧ ∃ ov', RS w' r { A with o := ordF f } ov' lv ∧ ∀ g, ov'.ownBlock = some g → w.heap.size ≤ g := by
  have hn8 := hA.n8
  have hn1 := hA.n1
  obtain ⟨hall, hcnt⟩ := rcount_by hA h hs
  obtain ⟨c0, c1⟩ : w.cell? ⟨r, 0, none⟩ = some (.int .i64 (A.n : Int)) ∧ w.cell? ⟨r, 1, none⟩ = some (.int .i64 A.lim) := by obtain ⟨o, _, hR⟩ := h; exact ⟨hR.c0, hR.c1⟩
  obtain ⟨vb, vo, ea, hv⟩ : ∃ vb vo, a = some ⟨vb, vo, none⟩ ∧ ∀ i, i < A.n → w.cell? ⟨vb, vo + i, none⟩ = some (.int .i64 (f i)) := by
    rcases ha with h | h
    · omega
    · exact h
  have hc1 := risorder_any (cap := cap) hn8 c0 (by omega) ha
  subst ea
  have HALL : Hid (∀ w0 : World, Keeps [] w w0 → Calls Tryz.prog 98 #[.pointer (some ⟨r, 0, none⟩)] w0 fun e w' => ∃ v, e = .returned v ∧ w'.ownsRow w.heap.size 9 1 v A.fs.length (texts (hsOf A.n A.fs)) ∧ Keeps [] w w') := hall
  have HCNT : Hid (∀ (w1 : World) (v : Value), Keeps [] w w1 → w1.ownsRow w.heap.size 9 1 v A.fs.length (texts (hsOf A.n A.fs)) → Calls Tryz.prog 97 #[.pointer (some ⟨r, 0, none⟩), v, .slice (some ⟨vb, vo, none⟩) A.n cap] w1 fun e w' => e = .returned (.int .i64 (sz : Int)) ∧ Keeps [] w1 w') := fun w1 v hk ho => hcnt w1 v vb vo cap hk ho (fun k hk' => by rw [ordF, Int.toNat_natCast]; exact hk.cell (hv k hk') (by simp))
  have HG : Hid (GoodO A.n A.n f) := hg
  have HA0 : Hid (RS w r A ov lv) := h
  have HV : Hid (∀ i, i < A.n → w.cell? ⟨vb, vo + i, none⟩ = some (.int .i64 (f i))) := hv
  have HNN : Hid (A.n ≤ 8 ∧ 1 ≤ A.n) := ⟨hn8, hn1⟩
  obtain ⟨n, hn⟩ : ∃ n, n = A.n := ⟨_, rfl⟩
  obtain ⟨lim, hl⟩ : ∃ lim, lim = A.lim := ⟨_, rfl⟩
  have HN : Hid (n = A.n) := hn
  rw [← hn] at HALL HCNT HG HV hc1 hn8 hn1 c0 ⊢
  rw [← hl] at hlim c1
  clear hall hcnt hs h ha hg hv hn hl hA
  go_enter Tryz.func44, Tryz.ntmps44
  go_wp2_with fail
  refine hc1.mono ?_
  rintro e w1 ⟨b, rfl, hb, hk1⟩
  have hbt : b = true := hb.2 HG.out
  subst hbt
  clear hb hc1
  go_wp2_with fail
  refine (HALL.out _ hk1).mono ?_
  rintro e w2 ⟨v, rfl, hown, hk2⟩
  have hc3 := HCNT.out _ _ hk2 hown
  obtain ⟨g2, l2, cap2, rfl⟩ : ∃ g2 l2 cap2, v = .slice g2 l2 cap2 := by
    rcases hown.2 with ⟨rfl, _⟩ | ⟨g, cap', cur, rfl, hb, hgg, rest⟩
    · exact ⟨_, _, _, rfl⟩
    · exact ⟨_, _, _, rfl⟩
  clear hown
  go_wp2_with fail
  refine hc3.mono ?_
  rintro e w3 ⟨rfl, hk4⟩
  have k4 := hk2.trans hk4
  have c1'' := k4.cell c1 (by simp)
  have hsz' : ¬ lim < (sz : Int) := by omega
  obtain ⟨i0, hi, hz0, hz1, hz2⟩ := info_parts infoIntR
  have hml : 100 < maxLen := by decide
  have hrl : r < w3.heap.size := cell_lt c1''
  obtain ⟨x3, xf⟩ : (∃ x, w3.cell? ⟨r, 3, none⟩ = some x) ∧ w3.frozen? ⟨r, 3, none⟩ = false := by
    obtain ⟨o, _, hR⟩ := HA0.out
    exact ⟨⟨_, k4.cell hR.c3 (by simp)⟩, (k4.frozen (p := ⟨r, 3, none⟩) (cell_lt hR.c3) (by simp)).trans (hR.fr 3)⟩
  obtain ⟨x3v, x3⟩ := x3
  have HCL : Hid (∀ j u, (rowF n f)[j]? = some u → w3.cell? ((⟨vb, vo, none⟩ : Addr).add j) = some u) := by
    intro j u hj
    have hjl : j < n := by have := (List.getElem?_eq_some_iff.1 hj).1; simpa [rowF] using this
    rw [Addr.add_mid, k4.cell (HV.out j hjl) (by simp)]
    simp [rowF, hjl] at hj
    rw [hj]
  have HNL : Hid ((rowF n f).length = n * 1) := by show _ = _; simp [rowF]
  have h1c : ∀ u ∈ rowF n f, u.oneCell' = true := by
    intro u hu
    obtain ⟨k, _, rfl⟩ := List.mem_map.1 hu
    rfl
  go_wp2_with (first
    | (at_builtin; refine wpList_append_grows _ rfl _ _ 31 rfl 3 i0 (.int .i64 0) 1 8 Tryz.underlying31 hi hz0 hz1 hz2 rfl (by decide) none 0 0 [] rfl (by simp) (by simp) (by simp) ⟨vb, vo, none⟩ n cap (rowF n f) rfl HNL.out (fun j u hj => HCL.out j u hj) h1c (by omega) (by omega) (by omega) ?_; intro v' w4 hown4 hgrow; have kk : Keeps [] w3 w4 := (Keeps.refl _ _).grown hgrow (by simp); have x3' := kk.cell x3 (by simp); have xf' : w4.frozen? ⟨r, 3, none⟩ = false := (kk.frozen (p := ⟨r, 3, none⟩) hrl (by simp)).trans xf; simp only [Nat.zero_add, List.nil_append] at hown4; obtain ⟨g4, cap4, hv4⟩ : ∃ g4 cap4, v' = .slice (some ⟨g4, 0, none⟩) n cap4 := (by rcases hown4.2 with ⟨_, h0⟩ | ⟨g2, cap2, cur, hv, _⟩ <;> first | omega | exact ⟨g2, cap2, hv⟩); subst hv4)
    | fail)
  have HROW : Hid (w4.ownsRow _ 3 1 (.slice (some ⟨g4, 0, none⟩) n cap4) n (rowF n f)) := hown4
  have hgl : w.heap.size ≤ g4 := by have := (hown4.lt g4 rfl).1; have := k4.size; omega
  clear hown4
  go_ret
  refine ⟨rfl, ((k4.trans kk).mono (by simp)).setCell _ (Or.inl (by simp)) _, .slice (some ⟨g4, 0, none⟩) n cap4, ?_, fun g e => ?_⟩
  · have hn := HN.out
    subst hn
    exact HA0.out.turned (k4.trans kk) HG.out hgl HROW.out
  · simp [Value.ownBlock] at e; omega

end Go.Proofs.YtmgjegokkbghlaaGreat

namespace Go.Proofs.YtmgjegokkbghlaaGreat
open Go.RowKit Go.Maps Bdd
attribute [local go_sem ↓] Go.wp_at_zero Go.wp_at_succ
set_option linter.unusedVariables false

set_option maxRecDepth 100000 in
set_option maxHeartbeats 1000000 in
theorem clone_row {w : World} {b L cap : Nat} {c : Int → Int} (hl : NumsIn w b 0 L c) (hL0 : 0 < L) (hL8 : L ≤ 8) :
    Calls Tryz.prog 100 #[.slice (some ⟨b, 0, none⟩) L cap] w fun e w' => ∃ v, e = .returned v ∧ w'.ownsRow w.heap.size 3 1 v L (listV c L) ∧ Keeps [] w w' := by
  obtain ⟨i0, hi, hz0, hz1, hz2⟩ := info_parts infoInt2
  have hml : 100 < maxLen := by decide
  have hnl : (listV c L).length = L := by simp [listV]
  have hcl : ∀ j u, (listV c L)[j]? = some u → w.cell? ((⟨b, 0, none⟩ : Addr).add j) = some u := by
    intro j u hj
    have hjl : j < L := by have := (List.getElem?_eq_some_iff.1 hj).1; rw [hnl] at this; exact this
    rw [Addr.add_mid, hl j hjl]
    simp [listV, hjl] at hj
    rw [hj]
  have h1c : ∀ u ∈ listV c L, u.oneCell' = true := by
    intro u hu
    obtain ⟨k, _, rfl⟩ := List.mem_map.1 hu
    rfl
  have HNL : Hid ((listV c L).length = L * 1) := by show _ = _; rw [hnl, Nat.mul_one]
  have HCL : Hid (∀ j u, (listV c L)[j]? = some u → w.cell? ((⟨b, 0, none⟩ : Addr).add j) = some u) := hcl
  have hLi : (0 : Int) < (L : Int) := by omega
  clear hnl hcl hl
  have q22 : ∀ (w : World) (a : Option Addr) (n c n' c' : Nat), (binOp .eql 31 (.slice a n c) (.slice none n' c')).run Tryz.prog w = .ok (.bool a.isNone) w := fun w a n c n' c' => Lib.run_eql_slice_nil w _ _ a n c n' c' Tryz.underlying31
  go_enter Tryz.func100, Tryz.ntmps100
  go_wp2_with (first
    | (at_builtin; refine wpList_append_grows _ rfl _ _ 31 rfl 3 i0 (.int .i64 0) 1 8 Tryz.underlying31 hi hz0 hz1 hz2 rfl (by decide) (some ⟨w.heap.size, 0, none⟩) 0 0 [] rfl (by simp) (by simp) (by simp) ⟨b, 0, none⟩ L cap (listV c L) rfl HNL.out (fun j u hj => (((Keeps.refl [] w).alloc _).cell (HCL.out j u hj) (by simp))) h1c (by omega) (by omega) (by omega) ?_; intro v' w2 hown hgrow)
    | fail)
  obtain ⟨g, cp, hv, hg⟩ : ∃ g cp, v' = .slice (some ⟨g, 0, none⟩) L cp ∧ w.heap.size ≤ g := by
    rcases hown.2 with ⟨_, h0⟩ | ⟨g, cp, cur, hv, hb, _⟩
    · omega
    · exact ⟨g, cp, by rw [hv, Nat.zero_add], by simp at hb; omega⟩
  subst hv
  go_ret
  have hown' := hown
  simp only [Nat.zero_add, List.nil_append] at hown'
  exact ⟨_, rfl, row_mono hown' (by first | omega | simp), ((Keeps.refl _ _).alloc _).grown hgrow (by simp)⟩

theorem order_row {w : World} {s hb t bn bm blk L nh sz : Nat} {lim given lb : Int} {V : Int → Option Fun} {c : Int → Int} (h : StO w s hb t bn bm blk L nh lim given V lb c sz) :
    Calls Tryz.prog 46 #[.pointer (some ⟨s, 0, none⟩)] w fun e w' => ∃ v, e = .returned v ∧ w'.ownsRow w.heap.size 3 1 v L (listV c L) ∧ Keeps [] w w' := by
  obtain ⟨hL8, hL0, ⟨cap, c2⟩, _, hord, _, _⟩ := order_o h
  have hl : NumsIn w blk 0 L c := fun k hk => by rw [Nat.zero_add]; exact hord k hk
  have hcall := clone_row (cap := cap) hl hL0 hL8
  clear hord hl h
  go_enter Tryz.func46, Tryz.ntmps46
  go_wp2_with fail
  refine hcall.mono ?_
  rintro e w1 ⟨v, rfl, hn, hk⟩
  go_wp2_with fail
  go_ret
  exact ⟨v, rfl, hn, hk⟩

set_option maxRecDepth 100000 in
set_option maxHeartbeats 1000000 in
theorem isOrder_len {w : World} {s hb t bn bm blk L nh sz n cap : Nat} {a : Option Addr} {lim given lb : Int} {V : Int → Option Fun} {c : Int → Int} (h : StO w s hb t bn bm blk L nh lim given V lb c sz) (hn : n ≠ L) :
    Calls Tryz.prog 93 #[.pointer (some ⟨s, 0, none⟩), .slice a n cap] w fun e w' => e = .returned (.bool false) ∧ Keeps [] w w' := by
  obtain ⟨hL8, hL0, ⟨ocap, c2⟩, _, hord, _, _⟩ := order_o h
  have hne : ¬ (n : Int) = (L : Int) := by omega
  clear h hord
  go_enter Tryz.func93, Tryz.ntmps93
  go_wp2_with fail
  go_ret
  exact ⟨rfl, Keeps.refl _ _⟩

theorem reorder_len {w : World} {s hb t bn bm blk L nh sz n cap : Nat} {a : Option Addr} {lim given lb : Int} {V : Int → Option Fun} {c : Int → Int} (h : StO w s hb t bn bm blk L nh lim given V lb c sz) (hn : n ≠ L) :
    Calls Tryz.prog 43 #[.pointer (some ⟨s, 0, none⟩), .slice a n cap] w fun e w' => e = .returned (.int .i64 6) ∧ Keeps [] w w' := by
  have hc1 := isOrder_len (a := a) (cap := cap) h hn
  clear h hn
  go_enter Tryz.func43, Tryz.ntmps43
  go_wp2_with fail
  refine hc1.mono ?_
  rintro e w1 ⟨rfl, hk1⟩
  clear hc1
  go_wp2_with fail
  go_ret
  exact ⟨rfl, hk1⟩

set_option maxRecDepth 100000 in
set_option maxHeartbeats 1000000 in
theorem reorder_by {w : World} {s hb t bn bm blk L nh sz b o cap : Nat} {lim given lb : Int} {V : Int → Option Fun} {c d : Int → Int} (h : StO w s hb t bn bm blk L nh lim given V lb c sz) (hd : IsOrd L d) (hsur : ∀ k, 0 ≤ k → k < (L : Int) → ∃ j : Nat, j < L ∧ d (j : Int) = k) (hl : NumsIn w b o L d) (hbS : b ∉ [t, bn, bm, blk]) (hlb : lb + 8000000 ≤ 4611686018427387904) :
    Calls Tryz.prog 43 #[.pointer (some ⟨s, 0, none⟩), .slice (some ⟨b, o, none⟩) L cap] w fun e w' => ∃ sz1 sz2, Cnts L d V sz1 ∧ ((sz1 : Int) ≤ lim → e = .returned (.int .i64 0) ∧ StO w' s hb t bn bm blk L nh lim given V (lb + 8000000) d sz2) ∧ (lim < (sz1 : Int) → e = .returned (.int .i64 5) ∧ StO w' s hb t bn bm blk L nh lim given V (lb + 8000000) c sz2) ∧ Keeps [t, bn, bm, blk] w w' := by
  have hord := h.inj
  have hc1 := isOrder_any (cap := cap) h hl
  have HS : Hid (StO w s hb t bn bm blk L nh lim given V lb c sz) := h
  have HD : Hid (IsOrd L d) := hd
  have HL : Hid (NumsIn w b o L d) := hl
  have HSU : Hid (∀ k, 0 ≤ k → k < (L : Int) → ∃ j : Nat, j < L ∧ d (j : Int) = k) := hsur
  have HO : Hid (IsOrd L c) := hord
  clear h hd hl hsur hord
  go_enter Tryz.func43, Tryz.ntmps43
  go_wp2_with fail
  refine hc1.mono ?_
  rintro e w1 ⟨r, rfl, hr, hk1⟩
  have hrt : r = true := hr.2 (fun k k0 k1 => by obtain ⟨a, b⟩ := HO.out.range k k0 k1; exact HSU.out _ a b)
  subst hrt
  clear hr hc1
  have hS1 := HS.out.keeps hk1
  have hc2 := order_any hS1
  have HS1 : Hid (StO w1 s hb t bn bm blk L nh lim given V lb c sz) := hS1
  clear hS1
  go_wp2_with fail
  refine hc2.mono ?_
  rintro e w2 ⟨g, cp, rfl, hg, hg2, hng, hk2⟩
  have hS2 := HS1.out.keeps hk2
  have hc3 := arrange_any (cap := cap) hS2 HD.out ((HL.out.keeps hk1 (by simp)).keeps hk2 (by simp)) hbS (by omega)
  have HNG : Hid (NumsIn w2 g 0 L c) := hng
  clear hc2 hS2 hng
  go_wp2_with fail
  refine hc3.mono ?_
  rintro e w3 ⟨rfl, ⟨sz3, hS3⟩, hk3⟩
  obtain ⟨d4, hlen⟩ := len_o hS3
  obtain ⟨_, _, _, d0, _, _, _⟩ := order_o hS3
  have HLEN : Hid (∀ w', Keeps [] w3 w' → Calls Tryz.prog 95 #[.pointer (some ⟨t, 0, none⟩)] w' fun e w'' => e = .returned (.int .i64 (sz3 : Int)) ∧ w' = w'') := hlen
  have HC3 : Hid (Cnts L d V sz3) := hS3.cnts
  have HS3 : Hid (StO w3 s hb t bn bm blk L nh lim given V (lb + 4000000) d sz3) := hS3
  have HNO : Hid (g ∉ [t, bn, bm, blk]) := by
    obtain ⟨_, _, _, _, _, hlts, _⟩ := order_o HS.out
    have hs1 := hk1.size
    intro hm
    have := hlts g (by simp at hm ⊢; rcases hm with h | h | h | h <;> simp [h])
    omega
  have hc4 := fun (w' : World) (hk : Keeps [] w3 w') => arrange_any (cap := cp) (hS3.keeps hk) HO.out ((HNG.out.keeps hk3 HNO.out).keeps hk (by simp)) HNO.out (by omega)
  have HC4 : Hid (∀ w', Keeps [] w3 w' → Calls Tryz.prog 94 #[.pointer (some ⟨s, 0, none⟩), .slice (some ⟨g, 0, none⟩) L cp] w' fun e w'' => e = .returned (.tuple #[]) ∧ (∃ sz', StO w'' s hb t bn bm blk L nh lim given V (lb + 4000000 + 4000000) c sz') ∧ Keeps [t, bn, bm, blk] w' w'') := hc4
  clear hc3 hS3 hlen hc4
  by_cases hsz3 : (sz3 : Int) ≤ lim
  · have hsz3' : ¬ lim < (sz3 : Int) := by omega
    go_wp2_with fail
    go_region_held3 (fun w' => w'.cell? ⟨s, 4, none⟩ = some (.pointer (some ⟨t, 0, none⟩)) ∧ w'.cell? ⟨s, 0, none⟩ = some (.int .i64 lim))
      (first | exact ⟨d4, d0⟩ | assumption)
      (first
        | (go_at_call 95; refine (HLEN.out _ ((Keeps.refl [] w3).drew)).mono ?_; rintro e w4 ⟨rfl, rfl⟩))
    go_wp2_with fail
    go_ret
    exact ⟨sz3, sz3, HC3.out, fun _ => ⟨rfl, (HS3.out.keeps ((Keeps.refl _ _).drew)).mono (by omega)⟩, fun h => absurd hsz3 (by omega), (((hk1.trans hk2).mono (by simp)).trans hk3).drew⟩
  · have hsz3' : lim < (sz3 : Int) := by omega
    go_wp2_with fail
    go_region_held3 (fun w' => w'.cell? ⟨s, 4, none⟩ = some (.pointer (some ⟨t, 0, none⟩)) ∧ w'.cell? ⟨s, 0, none⟩ = some (.int .i64 lim))
      (first | exact ⟨d4, d0⟩ | assumption)
      (first
        | (go_at_call 95; refine (HLEN.out _ ((Keeps.refl [] w3).drew)).mono ?_; rintro e w4 ⟨rfl, rfl⟩))
    go_wp2_with fail
    refine (HC4.out _ ((Keeps.refl [] w3).drew)).mono ?_
    rintro e w5 ⟨rfl, ⟨sz5, hS5⟩, hk5⟩
    have HS5 : Hid (StO w5 s hb t bn bm blk L nh lim given V (lb + 4000000 + 4000000) c sz5) := hS5
    clear hS5
    go_wp2_with fail
    go_ret
    exact ⟨sz3, sz5, HC3.out, fun h => absurd hsz3' (by omega), fun _ => ⟨rfl, HS5.out.mono (by omega)⟩, ((((hk1.trans hk2).mono (by simp)).trans hk3).drew).trans hk5⟩

end Go.Proofs.YtmgjegokkbghlaaGreat

namespace Go.Proofs.YtmgjegokkbghlaaGreat
open Go.RowKit Go.Maps Bdd
attribute [local go_sem ↓] Go.wp_at_zero Go.wp_at_succ
set_option linter.unusedVariables false

theorem rowF_len (n : Nat) (f : Nat → Int) : (rowF n f).length = n := by simp [rowF]
theorem rowF_get {n : Nat} (f : Nat → Int) {k : Nat} (hk : k < n) : (rowF n f)[k]? = some (.int .i64 (f k)) := by simp [rowF, hk]
theorem rowF_one {n : Nat} {f : Nat → Int} : ∀ u ∈ rowF n f, u.oneCell' = true := by
  intro u hu
  obtain ⟨k, _, rfl⟩ := List.mem_map.1 hu
  rfl
theorem rowF_app {n m : Nat} {f g h : Nat → Int} (h1 : ∀ k, k < n → h k = f k) (h2 : ∀ k, k < m → h (n + k) = g k) : rowF n f ++ rowF m g = rowF (n + m) h := by
  apply List.ext_getElem?
  intro i
  by_cases hi : i < n
  · rw [List.getElem?_append_left (by rw [rowF_len]; exact hi), rowF_get _ hi, rowF_get _ (by omega), h1 i hi]
  · rw [List.getElem?_append_right (by rw [rowF_len]; omega), rowF_len]
    by_cases hm : i < n + m
    · rw [rowF_get _ (by omega), rowF_get _ hm]
      have := h2 (i - n) (by omega)
      rw [show n + (i - n) = i by omega] at this
      rw [this]
    · rw [List.getElem?_eq_none (by rw [rowF_len]; omega), List.getElem?_eq_none (by rw [rowF_len]; omega)]
theorem rowF_cells {w : World} {b o n : Nat} {f : Nat → Int} (h : ∀ k : Nat, k < n → w.cell? ⟨b, o + k, none⟩ = some (.int .i64 (f k))) : ∀ j u, (rowF n f)[j]? = some u → w.cell? ((⟨b, o, none⟩ : Addr).add j) = some u := by
  intro j u hj
  have hjl : j < n := by have := (List.getElem?_eq_some_iff.1 hj).1; rw [rowF_len] at this; exact this
  rw [Addr.add_mid, h j hjl]
  rw [rowF_get _ hjl] at hj
  exact hj
theorem row_formS {w : World} {base : Nat} {e : TypeId} {size : Nat} {v : Value} {n : Nat} {xs : List Value} (h : w.ownsRow base e size v n xs) : ∃ a c, v = .slice a n c := by
  rcases h.2 with ⟨rfl, rfl⟩ | ⟨g, cap, cur, rfl, _⟩
  · exact ⟨_, _, rfl⟩
  · exact ⟨_, _, rfl⟩
theorem row_sliceS {w : World} {base : Nat} {e : TypeId} {size : Nat} {v : Value} {n : Nat} {xs : List Value} (h : w.ownsRow base e size v n xs) (hn : 0 < n) : ∃ g cap, v = .slice (some ⟨g, 0, none⟩) n cap := by
  rcases h.2 with ⟨_, h0⟩ | ⟨g, cap, cur, e, _⟩
  · omega
  · exact ⟨g, cap, e⟩
theorem row_cap {w : World} {base : Nat} {e : TypeId} {size : Nat} {g n c : Nat} {xs : List Value} (h : w.ownsRow base e size (.slice (some ⟨g, 0, none⟩) n c) n xs) : n ≤ c := by
  rcases h.2 with ⟨e, _⟩ | ⟨g', cap, cur, e, _, _, h1, _⟩
  · simp at e
  · simp at e; omega
/-- a list with one place taken out -/
def restF (f : Nat → Int) (from' : Nat) (k : Nat) : Int := if k < from' then f k else f (k + 1)
/-- put in again elsewhere -/
def takenF (f : Nat → Int) (from' to' : Nat) (k : Nat) : Int := if k < to' then restF f from' k else if k = to' then f from' else restF f from' (k - 1)

theorem ite_slice (c : Prop) [Decidable c] (a b : Addr) (n m : Nat) : Value.slice (if c then some a else some b) n m = Value.slice (some (if c then a else b)) n m := by split <;> rfl
theorem restRow {n x p : Nat} {f : Nat → Int} {w : World} {base : Nat} {v : Value} (h1 : p + 1 ≤ n) (h2 : n ≤ p + 1) (hx : x < n) (h : w.ownsRow base 3 1 v (x + (n - (x + 1))) (rowF x f ++ rowF (n - (x + 1)) (fun k => f (x + 1 + k)))) : w.ownsRow base 3 1 v p (rowF p (restF f x)) := by
  rw [rowF_app (h := restF f x) (fun k hk => by rw [restF, if_pos hk]) (fun k hk => by rw [restF, if_neg (by omega)]; congr 1; omega), show x + (n - (x + 1)) = p by omega] at h
  exact h
theorem takenRow {n x y p : Nat} {f : Nat → Int} {z : Int} {w : World} {base : Nat} {v : Value} (h1 : p + 1 ≤ n) (h2 : n ≤ p + 1) (hy : y < n) (hz : z = f x) (h : w.ownsRow base 3 1 v (y + 1 + (p - y)) (rowF y (restF f x) ++ [.int .i64 z] ++ rowF (p - y) (fun k => restF f x (y + k)))) : w.ownsRow base 3 1 v n (rowF n (takenF f x y)) := by
  have e1 : ([.int .i64 z] : List Value) = rowF 1 (fun _ => f x) := by simp [rowF, hz]
  rw [e1, rowF_app (h := takenF f x y) (fun k hk => by rw [takenF, if_pos hk]) (fun k hk => by rw [takenF, if_neg (by omega), if_pos (by omega)]), rowF_app (h := takenF f x y) (fun k hk => rfl) (fun k hk => by rw [takenF, if_neg (by omega), if_neg (by omega)]; congr 1; omega), show y + 1 + (p - y) = n by omega] at h
  exact h
theorem rowF_none {n : Nat} {f : Nat → Int} (hn : n = 0) {P : Nat → Value → Prop} : ∀ j u, (rowF n f)[j]? = some u → P j u := by
  subst hn
  intro j u hj
  simp [rowF] at hj

set_option maxRecDepth 100000 in
set_option maxHeartbeats 2000000 in
theorem rtaken_any {w : World} {b o n cap x y : Nat} {f : Nat → Int} (hn2 : 2 ≤ n) (hn8 : n ≤ 8) (hcap : n ≤ cap) (hord : ∀ k : Nat, k < n → w.cell? ⟨b, o + k, none⟩ = some (.int .i64 (f k))) (hx : x < n) (hy : y < n) :
    Calls Tryz.prog 101 #[.slice (some ⟨b, o, none⟩) n cap, .int .i64 (x : Int), .int .i64 (y : Int)] w fun e w' => ∃ v, e = .returned v ∧ w'.ownsRow w.heap.size 3 1 v n (rowF n (takenF f x y)) ∧ Keeps [] w w' := by
  obtain ⟨i0, hi, hz0, hz1, hz2⟩ := info_parts infoIntR
  have hml : 100 < maxLen := by decide
  have HO : Hid (∀ k : Nat, k < n → w.cell? ⟨b, o + k, none⟩ = some (.int .i64 (f k))) := hord
  have hx0 : (0 : Int) ≤ (x : Int) := by omega
  have hx1 : (x : Int) < (n : Int) := by omega
  have hx2 : (x : Int) ≤ (cap : Int) := by omega
  have hx3 : (x : Int) + 1 ≤ (n : Int) := by omega
  have hcap' : (n : Int) ≤ (cap : Int) := by omega
  have hy0 : (0 : Int) ≤ (y : Int) := by omega
  have hy1 : (y : Int) < (n : Int) := by omega
  have hb : b < w.heap.size := cell_lt (hord 0 (by omega))
  obtain ⟨p, hp1, hp2⟩ : ∃ p, p + 1 ≤ n ∧ n ≤ p + 1 := ⟨n - 1, by omega, by omega⟩
  obtain ⟨z, HZ⟩ : ∃ z, Hid (z = f x) := ⟨f x, rfl⟩
  have oz : w.cell? ⟨b, o + x, none⟩ = some (.int .i64 z) := by rw [HZ.out]; exact hord x hx
  clear hord
  go_enter Tryz.func101, Tryz.ntmps101
  go_wp2_with (first
    | (at_builtin; refine wpList_append_own_at _ rfl _ _ 31 rfl w2.heap.size 3 i0 (.int .i64 0) 1 8 Tryz.underlying31 hi hz0 hz1 hz2 rfl (by decide) (.slice a4 (y + 1) c4) (y + 1) (rowF y (restF f x) ++ [Value.int IntKind.i64 z]) rfl hown4 (if c2 = y then (⟨g2, 0, none⟩ : Addr) else ⟨g2, y, none⟩) (p - y) (c2 - y) (rowF (p - y) (fun k => restF f x (y + k))) (ite_slice _ _ _ _ _) (by rw [rowF_len, Nat.mul_one]) (by by_cases hc : c2 = y <;> first | exact rowF_none (by omega) | (rw [if_neg hc]; exact rowF_cells (b := g2) (o := y) (fun k hk => by rw [hrest4.cellAt (y + k) (by omega), rowF_get _ (by omega)]))) rowF_one (by omega) (by omega) (by have := k34.size; omega) ?_; intro v5 w5 hown5 hgrow5 hnil5 hat5; have hT := takenRow hp1 hp2 hy HZ.out hown5; have k5 : Keeps [] w w5 := k4.grown hgrow5 (fun k hk => Or.inr (by have := (hown4.lt k hk).1; omega)); obtain ⟨a5, c5, rfl⟩ : ∃ a5 c5, v5 = .slice a5 n c5 := row_formS hT)
    | (at_builtin; refine wpList_append_own_at _ rfl _ _ 31 rfl w2.heap.size 3 i0 (.int .i64 0) 1 8 Tryz.underlying31 hi hz0 hz1 hz2 rfl (by decide) _ y (rowF y (restF f x)) rfl (hown3.alloc _) ⟨w3.heap.size, 0, none⟩ 1 1 [.int .i64 z] rfl rfl (cell_one_new _ _ _) (ints_oneCell .i64 [z]) (by omega) (by omega) (by simp; omega) ?_; intro v4 w4 hown4 hgrow4 hnil4 hat4; have k4 : Keeps [] w w4 := (k3.alloc _).grown hgrow4 (fun k hk => Or.inr (by have := (hown3.lt k hk).1; omega)); have k34 : Keeps (Value.slice a3 y c3).ownBlock.toList w3 w4 := ((Keeps.refl _ _).alloc _).grown hgrow4 (fun k hk' => Or.inl (Option.mem_toList.2 hk')); have hrest4 := row_keeps hrest3 k34 (fun g hg hin => by have h1 := (hown3.lt g (by simpa using hin)).1; have h2 := (hrest2.lt g hg).2; omega); obtain ⟨a4, c4, rfl⟩ : ∃ a4 c4, v4 = .slice a4 (y + 1) c4 := row_formS hown4)
    | (at_builtin; refine wpList_append_own_at _ rfl _ _ 31 rfl w2.heap.size 3 i0 (.int .i64 0) 1 8 Tryz.underlying31 hi hz0 hz1 hz2 rfl (by decide) (.slice none 0 0) 0 [] rfl (World.ownsRow_nil _ _ _ _) ⟨g2, 0, none⟩ y _ (rowF y (restF f x)) rfl (by rw [rowF_len, Nat.mul_one]) (rowF_cells (fun k hk => by rw [Nat.zero_add, hrest2.cellAt k (by omega), rowF_get _ (by omega)])) rowF_one (by omega) (by omega) (Nat.le_refl _) ?_; intro v3 w3 hown3 hgrow3 hnil3 hat3; simp only [Nat.zero_add, List.nil_append] at hown3; have k23 : Keeps [] w2 w3 := (Keeps.refl _ _).grown hgrow3 (by simp [Value.ownBlock]); have k3 := k2.trans k23; have hs23 := k23.size; have hrest3 := row_keeps hrest2 k23 (by simp); have oz3 := k3.cell oz (by simp); obtain ⟨a3, c3, rfl⟩ : ∃ a3 c3, v3 = .slice a3 y c3 := row_formS hown3)
    | (at_builtin; refine wpList_append_own_at _ rfl _ _ 31 rfl w.heap.size 3 i0 (.int .i64 0) 1 8 Tryz.underlying31 hi hz0 hz1 hz2 rfl (by decide) _ x (rowF x f) rfl hown1 (if cap = x + 1 then (⟨b, o, none⟩ : Addr) else ⟨b, o + (x + 1), none⟩) (n - (x + 1)) (cap - (x + 1)) (rowF (n - (x + 1)) (fun k => f (x + 1 + k))) (ite_slice _ _ _ _ _) (by rw [rowF_len, Nat.mul_one]) (by by_cases hc : cap = x + 1 <;> first | exact rowF_none (by omega) | (rw [if_neg hc]; exact rowF_cells (b := b) (o := o + (x + 1)) (fun k hk => by rw [show o + (x + 1) + k = o + (x + 1 + k) by omega]; exact k1.cell (HO.out (x + 1 + k) (by omega)) (by simp)))) rowF_one (by omega) (by omega) k1.size ?_; intro v2 w2 hown2 hgrow2 hnil2 hat2; have k2 : Keeps [] w w2 := k1.grown hgrow2 (fun k hk => Or.inr (by have := (hown1.lt k hk).1; omega)); have hs2 := k2.size; have hrest2 := restRow hp1 hp2 hx hown2; obtain ⟨g2, c2, rfl⟩ := row_sliceS hrest2 (by omega); have hc2 : p ≤ c2 := row_cap hrest2; have hc2' : (p : Int) ≤ (c2 : Int) := (by omega); have hy2 : (y : Int) ≤ (p : Int) := (by omega))
    | (at_builtin; refine wpList_append_own_at _ rfl _ _ 31 rfl w.heap.size 3 i0 (.int .i64 0) 1 8 Tryz.underlying31 hi hz0 hz1 hz2 rfl (by decide) (.slice none 0 0) 0 [] rfl (World.ownsRow_nil _ _ _ _) ⟨b, o, none⟩ x _ (rowF x f) rfl (by rw [rowF_len, Nat.mul_one]) (rowF_cells (fun k hk => HO.out k (by omega))) rowF_one (by omega) (by omega) (Nat.le_refl _) ?_; intro v1 w1 hown1 hgrow1 hnil1 hat1; simp only [Nat.zero_add, List.nil_append] at hown1; have k1 : Keeps [] w w1 := (Keeps.refl _ _).grown hgrow1 (by simp [Value.ownBlock]); obtain ⟨a1, c1, rfl⟩ : ∃ a1 c1, v1 = .slice a1 x c1 := row_formS hown1)
    | fail)
  all_goals
    go_ret
    exact ⟨_, rfl, row_mono hT hs2, k5⟩

set_option maxRecDepth 100000 in
set_option maxHeartbeats 2000000 in
theorem rtaken_one {w : World} {b o cap : Nat} {f : Nat → Int} (hcap : 1 ≤ cap) (hord : w.cell? ⟨b, o, none⟩ = some (.int .i64 (f 0))) :
    Calls Tryz.prog 101 #[.slice (some ⟨b, o, none⟩) 1 cap, .int .i64 0, .int .i64 0] w fun e w' => ∃ v, e = .returned v ∧ w'.ownsRow w.heap.size 3 1 v 1 (rowF 1 (takenF f 0 0)) ∧ Keeps [] w w' := by
  obtain ⟨i0, hi, hz0, hz1, hz2⟩ := info_parts infoIntR
  have hml : 100 < maxLen := by decide
  have hb : b < w.heap.size := cell_lt hord
  obtain ⟨z, HZ⟩ : ∃ z, Hid (z = f 0) := ⟨f 0, rfl⟩
  rw [← HZ.out] at hord
  go_enter Tryz.func101, Tryz.ntmps101
  go_wp2_with (first
    | (at_builtin; refine wpList_append_own_at _ rfl _ _ 31 rfl w.heap.size 3 i0 (.int .i64 0) 1 8 Tryz.underlying31 hi hz0 hz1 hz2 rfl (by decide) (.slice none 0 0) 0 [] rfl (World.ownsRow_nil _ _ _ _) ⟨w.heap.size, 0, none⟩ 1 1 [.int .i64 z] rfl rfl (cell_one_new _ _ _) (ints_oneCell .i64 [z]) (by omega) (by omega) (by simp) ?_; intro v4 w4 hown4 hgrow4 hnil4 hat4; simp only [Nat.zero_add, List.nil_append] at hown4; have k4 : Keeps [] w w4 := ((Keeps.refl _ _).alloc _).grown hgrow4 (by simp [Value.ownBlock]); obtain ⟨g4, c4, rfl⟩ := row_sliceS hown4 (by omega); have hc4 : 1 ≤ c4 := row_cap hown4)
    | fail)
  all_goals
    go_ret
    refine ⟨_, rfl, ?_, k4⟩
    have e1 : ([Value.int IntKind.i64 z] : List Value) = rowF 1 (takenF f 0 0) := by simp [rowF, takenF, HZ.out]
    rw [← e1]
    exact hown4
/-- Taken, whatever the order's length -/
theorem rtaken {w : World} {b o n cap x y : Nat} {f : Nat → Int} (hn1 : 1 ≤ n) (hn8 : n ≤ 8) (hcap : n ≤ cap) (hord : ∀ k : Nat, k < n → w.cell? ⟨b, o + k, none⟩ = some (.int .i64 (f k))) (hx : x < n) (hy : y < n) :
    Calls Tryz.prog 101 #[.slice (some ⟨b, o, none⟩) n cap, .int .i64 (x : Int), .int .i64 (y : Int)] w fun e w' => ∃ v, e = .returned v ∧ w'.ownsRow w.heap.size 3 1 v n (rowF n (takenF f x y)) ∧ Keeps [] w w' := by
  by_cases h : 2 ≤ n
  · exact rtaken_any h hn8 hcap hord hx hy
  · obtain rfl : n = 1 := by omega
    obtain rfl : x = 0 := by omega
    obtain rfl : y = 0 := by omega
    exact rtaken_one hcap (hord 0 (by omega))

theorem rnodes_by {w : World} {r : Nat} {A : Abs} {ov lv : Value} (hA : AbsOk A) (h : RS w r A ov lv) {sz : Nat} (hsz : Cnts A.n A.o (Vof A.fs) sz) :
    Calls Tryz.prog 58 #[.pointer (some ⟨r, 0, none⟩)] w fun e w2 => e = .returned (.int .i64 (sz : Int)) ∧ Keeps [] w w2 := by
  obtain ⟨o, ho, hR⟩ := h
  obtain ⟨N, last, od, g, hw, hg, hcount, hod⟩ := hsz.names hA.nd (by have := hA.len; omega)
  have e1 : hT N od (A.fs.map fun p => (p.1, g p.1)) = hsOf A.n A.fs := by
    unfold hT hsOf T
    rw [List.map_map]
    refine List.map_congr_left (fun p hp => ?_)
    simp only [Function.comp]
    rw [(hg p hp).2]
  have hR' := hR.order (o' := od) (fun k k0 k1 => (ho k k0 k1).trans (hod k k0 k1).symm)
  rw [← e1] at hR'
  have := rnodes_any hw hA.n8 hR' (fun p hp => by
    obtain ⟨q, hq, rfl⟩ := List.mem_map.1 hp
    exact (hg q hq).1) (by simp; exact hA.len)
  have e2 : (A.fs.map fun p => (p.1, g p.1)).map (·.2) = A.fs.map fun p => g p.1 := by rw [List.map_map]; rfl
  rw [e2, ← hcount] at this
  exact this

set_option maxRecDepth 100000 in
set_option maxHeartbeats 2000000 in
theorem rsift_any {w : World} {r b o cap sz0 sz1 : Nat} {A : Abs} {ov lv : Value} {f : Nat → Int} (hA : AbsOk A) (h : RS w r A ov lv) (hcap : A.n ≤ cap) (hord : ∀ k : Nat, k < A.n → w.cell? ⟨b, o + k, none⟩ = some (.int .i64 (f k))) (hg : GoodO A.n A.n f) (hs0 : Cnts A.n A.o (Vof A.fs) sz0) (hs1 : Cnts A.n (ordF f) (Vof A.fs) sz1) (hle : sz1 ≤ sz0) (htk : ∀ x y, x < A.n → y < A.n → ∃ sz, Cnts A.n (ordF (takenF f x y)) (Vof A.fs) sz ∧ sz1 ≤ sz) :
    Calls Tryz.prog 47 #[.pointer (some ⟨r, 0, none⟩), .slice (some ⟨b, o, none⟩) A.n cap] w fun e w' => e = .returned (.bool true) ∧ Keeps [r] w w' ∧ ∃ ov', RS w' r { A with o := ordF f } ov' lv ∧ ∀ g, ov'.ownBlock = some g → w.heap.size ≤ g := by
  have hn8 := hA.n8
  have hn1 := hA.n1
  have hall := (rcount_by hA h hs1).1
  have hcnt : ∀ (d : Int → Int) (sz : Nat), Cnts A.n d (Vof A.fs) sz → ∀ (w1 : World) (v : Value) (ob oo ocap : Nat), Keeps [] w w1 → w1.ownsRow w.heap.size 9 1 v A.fs.length (texts (hsOf A.n A.fs)) → (∀ k : Nat, k < A.n → w1.cell? ⟨ob, oo + k, none⟩ = some (.int .i64 (d (k : Int)))) → Calls Tryz.prog 97 #[.pointer (some ⟨r, 0, none⟩), v, .slice (some ⟨ob, oo, none⟩) A.n ocap] w1 fun e w' => e = .returned (.int .i64 (sz : Int)) ∧ Keeps [] w1 w' := fun d sz hc => (rcount_by hA h hc).2
  have hnod : ∀ w1, Keeps [] w w1 → Calls Tryz.prog 58 #[.pointer (some ⟨r, 0, none⟩)] w1 fun e w2 => e = .returned (.int .i64 (sz0 : Int)) ∧ Keeps [] w1 w2 := fun w1 hk => rnodes_by hA (h.keeps hk (by simp) (by simp) (by simp)) hs0
  have c0 : w.cell? ⟨r, 0, none⟩ = some (.int .i64 (A.n : Int)) := by obtain ⟨o, _, hR⟩ := h; exact hR.c0
  have hc1 := risorder_any (cap := cap) hn8 c0 (by omega) (Or.inr ⟨b, o, rfl, hord⟩)
  have HALL : Hid (∀ w0 : World, Keeps [] w w0 → Calls Tryz.prog 98 #[.pointer (some ⟨r, 0, none⟩)] w0 fun e w' => ∃ v, e = .returned v ∧ w'.ownsRow w.heap.size 9 1 v A.fs.length (texts (hsOf A.n A.fs)) ∧ Keeps [] w w') := hall
  have HNOD : Hid (∀ w1, Keeps [] w w1 → Calls Tryz.prog 58 #[.pointer (some ⟨r, 0, none⟩)] w1 fun e w2 => e = .returned (.int .i64 (sz0 : Int)) ∧ Keeps [] w1 w2) := hnod
  obtain ⟨n, hn⟩ : ∃ n, n = A.n := ⟨_, rfl⟩
  rw [← hn] at hcnt hc1 hn8 hn1 c0 hcap hord htk hg hs1 ⊢
  rw [← hn] at HALL
  have HCNT : Hid (∀ (d : Int → Int) (sz : Nat), Cnts n d (Vof A.fs) sz → ∀ (w1 : World) (v : Value) (ob oo ocap : Nat), Keeps [] w w1 → w1.ownsRow w.heap.size 9 1 v A.fs.length (texts (hsOf n A.fs)) → (∀ k : Nat, k < n → w1.cell? ⟨ob, oo + k, none⟩ = some (.int .i64 (d (k : Int)))) → Calls Tryz.prog 97 #[.pointer (some ⟨r, 0, none⟩), v, .slice (some ⟨ob, oo, none⟩) n ocap] w1 fun e w' => e = .returned (.int .i64 (sz : Int)) ∧ Keeps [] w1 w') := hcnt
  have HTK : Hid (∀ x y, x < n → y < n → ∃ sz, Cnts n (ordF (takenF f x y)) (Vof A.fs) sz ∧ sz1 ≤ sz) := htk
  have HG : Hid (GoodO n n f) := hg
  have HA0 : Hid (RS w r A ov lv) := h
  have HV : Hid (∀ i, i < n → w.cell? ⟨b, o + i, none⟩ = some (.int .i64 (f i))) := hord
  have HN : Hid (n = A.n) := hn
  have HS1 : Hid (Cnts n (ordF f) (Vof A.fs) sz1) := hs1
  have hle' : ¬ (sz0 : Int) < (sz1 : Int) := by omega
  clear hall hcnt h hg hord hn hA hs0 hs1 htk hnod
  go_enter Tryz.func47, Tryz.ntmps47
  go_wp2_with fail
  refine hc1.mono ?_
  rintro e w1 ⟨bb, rfl, hb, hk1⟩
  have hbt : bb = true := hb.2 HG.out
  subst hbt
  clear hb hc1
  go_wp2_with fail
  refine (HALL.out _ hk1).mono ?_
  rintro e w2 ⟨v, rfl, hown, hk2⟩
  have hc3 := HCNT.out _ _ HS1.out _ _ b o cap hk2 hown (fun k hk' => by rw [ordF, Int.toNat_natCast]; exact hk2.cell (HV.out k hk') (by simp))
  obtain ⟨g2, l2, cap2, rfl⟩ := row_form hown
  clear hown
  go_wp2_with fail
  refine hc3.mono ?_
  rintro e w3 ⟨rfl, hk3⟩
  have k3 := hk2.trans hk3
  clear hc3
  go_wp2_with fail
  refine (HNOD.out _ k3).mono ?_
  rintro e w4 ⟨rfl, hk4⟩
  have k4 := k3.trans hk4
  go_wp2_with fail
  have e24 : decide (sz0 < sz1) = false := decide_eq_false (by omega)
  rw [e24]
  clear e24
  go_loopw [7] (fun s7 wx => ∃ x : Nat, x ≤ n ∧ s7 = .int .i64 x ∧ Keeps [] w wx) (fun s7 _ => n - (intOf s7).toNat)
  case atStart => exact ⟨0, by omega, rfl, k4⟩
  case round =>
    clear k3 k4 hk4 hk3 hk2 hk1
    obtain ⟨x, hx, rfl, hk⟩ := hrel
    have c0' := hk.cell c0 (by simp)
    by_cases hlt : x < n
    · have hx0 : (0 : Int) ≤ (x : Int) := by omega
      have hx1 : (x : Int) < (n : Int) := by omega
      obtain ⟨wA, rfl⟩ : ∃ wA, wA = wr := ⟨wr, rfl⟩
      go_wp2_with fail
      go_loopw [8] (fun s8 wx => ∃ y : Nat, y ≤ n ∧ s8 = .int .i64 y ∧ Keeps [] w wx) (fun s8 _ => n - (intOf s8).toNat)
      case atStart => exact ⟨0, by omega, rfl, hk⟩
      case round =>
        clear hk c0'
        obtain ⟨y, hy, rfl, hk⟩ := hrel
        have c0' := hk.cell c0 (by simp)
        by_cases hylt : y < n
        · have hy0 : (0 : Int) ≤ (y : Int) := by omega
          have hy1 : (y : Int) < (n : Int) := by omega
          go_wp2_with fail
          refine (HALL.out _ hk).mono ?_
          rintro e w5 ⟨v5, rfl, hown5, hk5⟩
          obtain ⟨g5, l5, cap5, rfl⟩ := row_form hown5
          have HOWN5 : Hid (w5.ownsRow w.heap.size 9 1 (.slice g5 l5 cap5) A.fs.length (texts (hsOf n A.fs))) := hown5
          clear hown5
          go_wp2_with fail
          refine (rtaken hn1 hn8 hcap (fun k hk' => hk5.cell (HV.out k hk') (by simp)) hlt hylt).mono ?_
          rintro e w6 ⟨v6, rfl, hown6, hk6⟩
          obtain ⟨sz6, hc6, hle6⟩ := HTK.out x y hlt hylt
          have hle6' : ¬ (sz6 : Int) < (sz1 : Int) := by omega
          obtain ⟨g6, c6, rfl⟩ := row_sliceS hown6 (by omega)
          have hc7 := HCNT.out _ _ hc6 _ _ g6 0 c6 (hk5.trans hk6) (row_keeps HOWN5.out hk6 (by simp)) (fun k hk' => by rw [ordF, Int.toNat_natCast, Nat.zero_add, hown6.cellAt k (by omega), rowF_get _ hk'])
          clear hown6 hc6 HOWN5
          go_wp2_with fail
          refine hc7.mono ?_
          rintro e w7 ⟨rfl, hk7⟩
          clear hc7
          go_wp2_with fail
          go_roundw
          case rel => exact ⟨y + 1, by omega, by go_num, (hk5.trans hk6).trans hk7⟩
          case measure => simp [intOf]; omega
        · have ey : y = n := by omega
          subst ey
          go_wp2_with fail
          go_roundw
          case rel => exact ⟨x + 1, by omega, by go_num, hk⟩
          case measure => simp [intOf]; omega
    · have ex : x = n := by omega
      subst ex
      obtain ⟨w3, rfl⟩ : ∃ w3, w3 = wr := ⟨wr, rfl⟩
      have k4 := hk
      obtain ⟨i0, hi, hz0, hz1, hz2⟩ := info_parts infoIntR
      have hml : 100 < maxLen := by decide
      have hrl : r < w3.heap.size := cell_lt c0'
      obtain ⟨x3, xf⟩ : (∃ x, w3.cell? ⟨r, 3, none⟩ = some x) ∧ w3.frozen? ⟨r, 3, none⟩ = false := by
        obtain ⟨o, _, hR⟩ := HA0.out
        exact ⟨⟨_, k4.cell hR.c3 (by simp)⟩, (k4.frozen (p := ⟨r, 3, none⟩) (cell_lt hR.c3) (by simp)).trans (hR.fr 3)⟩
      obtain ⟨x3v, x3⟩ := x3
      have HCL : Hid (∀ j u, (rowF x f)[j]? = some u → w3.cell? ((⟨b, o, none⟩ : Addr).add j) = some u) := by
        intro j u hj
        have hjl : j < x := by have := (List.getElem?_eq_some_iff.1 hj).1; simpa [rowF] using this
        rw [Addr.add_mid, k4.cell (HV.out j hjl) (by simp)]
        simp [rowF, hjl] at hj
        rw [hj]
      have HNL : Hid ((rowF x f).length = x * 1) := by show _ = _; simp [rowF]
      have h1c : ∀ u ∈ rowF x f, u.oneCell' = true := by
        intro u hu
        obtain ⟨k, _, rfl⟩ := List.mem_map.1 hu
        rfl
      go_wp2_with (first
        | (at_builtin; refine wpList_append_grows _ rfl _ _ 31 rfl 3 i0 (.int .i64 0) 1 8 Tryz.underlying31 hi hz0 hz1 hz2 rfl (by decide) none 0 0 [] rfl (by simp) (by simp) (by simp) ⟨b, o, none⟩ x cap (rowF x f) rfl HNL.out (fun j u hj => HCL.out j u hj) h1c (by omega) (by omega) (by omega) ?_; intro v' w4 hown4 hgrow; have kk : Keeps [] w3 w4 := (Keeps.refl _ _).grown hgrow (by simp); have x3' := kk.cell x3 (by simp); have xf' : w4.frozen? ⟨r, 3, none⟩ = false := (kk.frozen (p := ⟨r, 3, none⟩) hrl (by simp)).trans xf; simp only [Nat.zero_add, List.nil_append] at hown4; obtain ⟨g4, cap4, hv4⟩ : ∃ g4 cap4, v' = .slice (some ⟨g4, 0, none⟩) x cap4 := (by rcases hown4.2 with ⟨_, h0⟩ | ⟨g2, cap2, cur, hv, _⟩ <;> first | omega | exact ⟨g2, cap2, hv⟩); subst hv4)
        | fail)
      have HROW : Hid (w4.ownsRow _ 3 1 (.slice (some ⟨g4, 0, none⟩) x cap4) x (rowF x f)) := hown4
      have hgl : w.heap.size ≤ g4 := by have := (hown4.lt g4 rfl).1; have := k4.size; omega
      clear hown4
      go_ret
      refine ⟨rfl, ((k4.trans kk).mono (by simp)).setCell _ (Or.inl (by simp)) _, .slice (some ⟨g4, 0, none⟩) x cap4, ?_, fun g e => ?_⟩
      · have hn := HN.out
        subst hn
        exact HA0.out.turned (k4.trans kk) HG.out hgl HROW.out
      · simp [Value.ownBlock] at e; omega

end Go.Proofs.YtmgjegokkbghlaaGreat

namespace Go.Proofs.YtmgjegokkbghlaaGreat
open Go.RowKit Go.Maps Bdd
set_option linter.unusedVariables false

theorem GoodO.isOrd {n : Nat} {f : Nat → Int} (h : GoodO n n f) : IsOrd n (ordF f) :=
  ⟨fun k h0 h1 => h.range (show k.toNat < n by omega), fun j k h0 h1 h2 h3 e => by have := h.inj (show j.toNat < n by omega) (show k.toNat < n by omega) e; omega⟩
theorem GoodO.sur {n : Nat} {f : Nat → Int} (h : GoodO n n f) : ∀ k, 0 ≤ k → k < (n : Int) → ∃ j : Nat, j < n ∧ ordF f (j : Int) = k := fun k h0 h1 => by
  obtain ⟨j, hj, e⟩ := h.2 k.toNat (by omega)
  exact ⟨j, hj, by rw [ordF, Int.toNat_natCast, e]; omega⟩
/-- in every order there are so many nodes -/
theorem StO.cnts_any {w : World} {s hb t bn bm blk L nh sz : Nat} {lim given lb : Int} {V : Int → Option Fun} {c d : Int → Int} (h : StO w s hb t bn bm blk L nh lim given V lb c sz) (hd : IsOrd L d) (hlb : lb + 4000000 ≤ 4611686018427387904) : ∃ sz', Cnts L d V sz' := by
  obtain ⟨hL8, hL0, _, _, _, hlts, _⟩ := order_o h
  have hml : 100 < maxLen := by decide
  have hrow := World.ownsRow_lit (e := 3) (size := 1) (base := 0) w (rowF L (fun k => d (k : Int))).toArray L (Nat.zero_le _) (by omega) (by simp [rowF])
  have hk : Keeps [] w (w.alloc (.cells (rowF L (fun k => d (k : Int))).toArray 3)) := (Keeps.refl _ _).alloc _
  have hl : NumsIn (w.alloc (.cells (rowF L (fun k => d (k : Int))).toArray 3)) w.heap.size 0 L d := fun k hk => by
    rw [Nat.zero_add, hrow.cellAt k (by omega), List.toList_toArray, rowF_get _ hk]
  obtain ⟨e, w', fr, ⟨_, ⟨sz', h'⟩, _⟩, _⟩ := arrange_any (cap := L) (h.keeps hk) hd hl (fun hm => by
    have := hlts w.heap.size (by simp at hm ⊢; rcases hm with h | h | h | h <;> simp [h])
    omega) hlb []
  exact ⟨sz', h'.cnts⟩
theorem PS.sto {w : World} {own : Own} {tg : Tag} {s : Nat} {A : Abs} {lb : Int} (h : PS w own tg s A lb) : ∃ hb t bn bm blk sz, StO w s hb t bn bm blk A.n A.fs.length A.lim A.la (Vof A.fs) lb A.o sz ∧ ∀ b ∈ [s, hb, t, bn, bm, blk], own b = tg := by
  obtain ⟨hb, t, bn, bm, od, sz, h1, h2, h3⟩ := h
  exact ⟨hb, t, bn, bm, od.blk, sz, ⟨od, h1, rfl, h2⟩, h3⟩
theorem PS.of {w : World} {own : Own} {tg : Tag} {s hb t bn bm blk sz : Nat} {A : Abs} {lb : Int} {c : Int → Int} (h : StO w s hb t bn bm blk A.n A.fs.length A.lim A.la (Vof A.fs) lb c sz) (h3 : ∀ b ∈ [s, hb, t, bn, bm, blk], own b = tg) {o' : Int → Int} (ho : ∀ k, 0 ≤ k → k < (A.n : Int) → c k = o' k) : PS w own tg s { A with o := o' } lb := by
  obtain ⟨od, h1, rfl, h2⟩ := h
  exact ⟨hb, t, bn, bm, od, sz, h1, fun k h0 h1 => (h2 k h0 h1).trans (ho k h0 h1), h3⟩
theorem PS.cnts_any {w : World} {own : Own} {tg : Tag} {s : Nat} {A : Abs} {lb : Int} (h : PS w own tg s A lb) {f : Nat → Int} (hg : GoodO A.n A.n f) (hlb : lb + 4000000 ≤ 4611686018427387904) : ∃ sz, Cnts A.n (ordF f) (Vof A.fs) sz := by
  obtain ⟨hb, t, bn, bm, blk, sz, h1, _⟩ := h.sto
  exact h1.cnts_any hg.isOrd hlb
theorem AbsOk.turn {A : Abs} (h : AbsOk A) (o' : Int → Int) : AbsOk { A with o := o' } := ⟨h.n1, h.n8, h.la0, h.hs, h.nd, h.len⟩

/-- what Reorder comes to -/
noncomputable def reorderOf (A : Abs) (m : Nat) (f : Nat → Int) : Int × Abs := by
  classical
  exact if GoodO A.n m f then (if A.lim < (cntOf A.n (ordF f) (Vof A.fs) : Int) then (5, A) else (0, { A with o := ordF f })) else (6, A)
theorem reorderOf_bad {A : Abs} {m : Nat} {f : Nat → Int} (h : ¬ GoodO A.n m f) : reorderOf A m f = (6, A) := by unfold reorderOf; rw [if_neg h]
theorem reorderOf_full {A : Abs} {m : Nat} {f : Nat → Int} (h : GoodO A.n m f) {sz : Nat} (hc : Cnts A.n (ordF f) (Vof A.fs) sz) (hl : A.lim < (sz : Int)) : reorderOf A m f = (5, A) := by unfold reorderOf; rw [if_pos h, cntOf_eq hc, if_pos hl]
theorem reorderOf_ok {A : Abs} {m : Nat} {f : Nat → Int} (h : GoodO A.n m f) {sz : Nat} (hc : Cnts A.n (ordF f) (Vof A.fs) sz) (hl : (sz : Int) ≤ A.lim) : reorderOf A m f = (0, { A with o := ordF f }) := by unfold reorderOf; rw [if_pos h, cntOf_eq hc, if_neg (by omega)]
theorem AbsOk.reorder {A : Abs} (h : AbsOk A) (m : Nat) (f : Nat → Int) : AbsOk (reorderOf A m f).2 := by
  unfold reorderOf
  split
  · split
    · exact h
    · exact h.turn _
  · exact h

theorem ps_reorder {w : World} {own : Own} {tg : Tag} {s : Nat} {A : Abs} {lb : Int} (hA : AbsOk A) (h : PS w own tg s A lb) (hlb : lb + 8000000 ≤ 4611686018427387904) {a : Option Addr} {m cap : Nat} {f : Nat → Int} (ha : IntsAt w a m f) (hown : ∀ b o, a = some ⟨b, o, none⟩ → own b ≠ tg) :
    Calls Tryz.prog 43 #[.pointer (some ⟨s, 0, none⟩), .slice a m cap] w fun e w' => e = .returned (.int .i64 (reorderOf A m f).1) ∧ PS w' (newOwn own w tg) tg s (reorderOf A m f).2 (lb + 8000000) ∧ Only own tg w w' := by
  have h0 := h
  have hn1 := hA.n1
  obtain ⟨hb, t, bn, bm, blk, sz, h1, h3⟩ := h.sto
  by_cases hg : GoodO A.n m f
  · have hmn := hg.1
    subst hmn
    obtain ⟨vb, vo, ea, hv⟩ : ∃ vb vo, a = some ⟨vb, vo, none⟩ ∧ ∀ i, i < A.n → w.cell? ⟨vb, vo + i, none⟩ = some (.int .i64 (f i)) := by
      rcases ha with h | h
      · omega
      · exact h
    subst ea
    have hne := hown vb vo rfl
    refine (reorder_by (cap := cap) h1 hg.isOrd hg.sur (fun k hk => by rw [ordF, Int.toNat_natCast]; exact hv k hk) (fun hm => hne (h3 vb (by simp at hm ⊢; rcases hm with h | h | h | h <;> simp [h]))) hlb).mono ?_
    rintro e w' ⟨sz1, sz2, hc, hok, hno, hk⟩
    have hO : Only own tg w w' := Only.of hk (fun b hb' => h3 b (by simp at hb' ⊢; rcases hb' with h | h | h | h <;> simp [h]))
    by_cases hl : (sz1 : Int) ≤ A.lim
    · rw [reorderOf_ok hg hc hl]
      obtain ⟨rfl, hS⟩ := hok hl
      exact ⟨rfl, PS.of hS (fun b hb' => newOwn_same (h3 b hb')) (fun _ _ _ => rfl), hO⟩
    · rw [reorderOf_full hg hc (by omega)]
      obtain ⟨rfl, hS⟩ := hno (by omega)
      exact ⟨rfl, PS.of hS (fun b hb' => newOwn_same (h3 b hb')) (fun _ _ _ => rfl), hO⟩
  · rw [reorderOf_bad hg]
    have fin : ∀ (e : Ending) (w' : World), e = .returned (.int .i64 6) ∧ Keeps [] w w' → e = .returned (.int .i64 6) ∧ PS w' (newOwn own w tg) tg s A (lb + 8000000) ∧ Only own tg w w' := fun e w' hh => ⟨hh.1, (h0.keeps hh.2 (fun b hb e => newOwn_stays hb e)).wider (by omega), Only.nil hh.2⟩
    by_cases hmn : m = A.n
    · subst hmn
      obtain ⟨vb, vo, ea, hv⟩ : ∃ vb vo, a = some ⟨vb, vo, none⟩ ∧ ∀ i, i < A.n → w.cell? ⟨vb, vo + i, none⟩ = some (.int .i64 (f i)) := by
        rcases ha with h | h
        · omega
        · exact h
      subst ea
      obtain ⟨v, hv1, hv2⟩ : ∃ v : Nat, v < A.n ∧ ∀ j, j < A.n → f j ≠ (v : Int) := by
        apply Classical.byContradiction
        intro hh
        exact hg ⟨rfl, fun v hv => Classical.byContradiction fun h => hh ⟨v, hv, fun j hj e => h ⟨j, hj, e⟩⟩⟩
      exact (reorder_bad (cap := cap) (d := ordF f) h1 (fun k hk => by rw [ordF, Int.toNat_natCast]; exact hv k hk) (v := (v : Int)) (by omega) (by omega) (fun j hj => by rw [ordF, Int.toNat_natCast]; exact hv2 j hj)).mono fin
    · exact (reorder_len h1 hmn).mono fin

theorem rs_reorder {w : World} {own : Own} {tg : Tag} {r : Nat} {A : Abs} (hA : AbsOk A) (h : RW w own tg r A) {a : Option Addr} {m cap : Nat} {f : Nat → Int} (hm : m < 4611686018427387904) (ha : IntsAt w a m f) (hc : GoodO A.n m f → ∃ sz, Cnts A.n (ordF f) (Vof A.fs) sz) :
    Calls Tryz.prog 44 #[.pointer (some ⟨r, 0, none⟩), .slice a m cap] w fun e w' => e = .returned (.int .i64 (reorderOf A m f).1) ∧ RW w' (newOwn own w tg) tg r (reorderOf A m f).2 ∧ Only own tg w w' := by
  have h0 := h
  obtain ⟨ov, lv, h1, h2, h3, h4⟩ := h
  have hl := h1.ll
  by_cases hg : GoodO A.n m f
  · have hmn := hg.1
    subst hmn
    obtain ⟨sz, hsz⟩ := hc hg
    by_cases hlim : (sz : Int) ≤ A.lim
    · rw [reorderOf_ok hg hsz hlim]
      refine (rreorder_ok hA h1 ha hg hsz hlim).mono ?_
      rintro e w' ⟨rfl, hk, ov', hR, hg'⟩
      exact ⟨rfl, ⟨ov', lv, hR, newOwn_same h2, fun g e => newOwn_new (hg' g e), fun g e => newOwn_same (h4 g e)⟩, Only.of hk (fun b hb => by simp at hb; rw [hb]; exact h2)⟩
    · rw [reorderOf_full hg hsz (by omega)]
      refine (rreorder_full hA h1 ha hg hsz (by omega)).mono ?_
      rintro e w' ⟨rfl, hk⟩
      exact ⟨rfl, h0.keeps hA hk (fun b hb e => newOwn_stays hb e), Only.nil hk⟩
  · rw [reorderOf_bad hg]
    obtain ⟨o, _, hR⟩ := h1
    refine (rreorder_bad hA.n8 hR.c0 hm ha hg).mono ?_
    rintro e w' ⟨rfl, hk⟩
    exact ⟨rfl, h0.keeps hA hk (fun b hb e => newOwn_stays hb e), Only.nil hk⟩

theorem ps_order {w : World} {own : Own} {tg : Tag} {s : Nat} {A : Abs} {lb : Int} (h : PS w own tg s A lb) :
    Calls Tryz.prog 46 #[.pointer (some ⟨s, 0, none⟩)] w fun e w' => ∃ v, e = .returned v ∧ w'.ownsRow w.heap.size 3 1 v A.n (rowF A.n (fun k => A.o (k : Int))) ∧ Keeps [] w w' := by
  obtain ⟨hb, t, bn, bm, blk, sz, h1, _⟩ := h.sto
  exact order_row h1

theorem pw_le8 {L : Nat} (h : L ≤ 8) : pw L ≤ 256 := by
  have : L = 0 ∨ L = 1 ∨ L = 2 ∨ L = 3 ∨ L = 4 ∨ L = 5 ∨ L = 6 ∨ L = 7 ∨ L = 8 := by omega
  rcases this with rfl | rfl | rfl | rfl | rfl | rfl | rfl | rfl | rfl <;> simp [pw]
theorem StO.szle {w : World} {s hb t bn bm blk L nh sz : Nat} {lim given lb : Int} {V : Int → Option Fun} {c : Int → Int} (h : StO w s hb t bn bm blk L nh lim given V lb c sz) : sz ≤ 20000 := by
  have hL8 := (order_o h).1
  obtain ⟨od, ⟨N, last, H, hst, k1, k2, k3, k4, k5, k6⟩, _⟩ := h
  have h1 : nh * (pw L - 1) ≤ 60 * 255 := Nat.mul_le_mul k6 (by have := pw_le8 hL8; omega)
  omega
/-- which place stands there when one is taken to another -/
def sg (x y k : Nat) : Nat := if k < y then (if k < x then k else k + 1) else if k = y then x else (if k - 1 < x then k - 1 else k)
theorem takenF_sg (f : Nat → Int) (x y k : Nat) : takenF f x y k = f (sg x y k) := by
  unfold takenF sg restF
  by_cases h1 : k < y
  · rw [if_pos h1, if_pos h1]; split <;> rfl
  · rw [if_neg h1, if_neg h1]
    by_cases h2 : k = y
    · rw [if_pos h2, if_pos h2]
    · rw [if_neg h2, if_neg h2]
      by_cases h3 : k - 1 < x
      · rw [if_pos h3, if_pos h3]
      · rw [if_neg h3, if_neg h3]; congr 1; omega
theorem sg_lt {n x y k : Nat} (hx : x < n) (hy : y < n) (hk : k < n) : sg x y k < n := by
  unfold sg
  split
  · split <;> omega
  · split
    · exact hx
    · split <;> omega
theorem sg_inj {x y j k : Nat} (e : sg x y j = sg x y k) : j = k := by
  unfold sg at e
  by_cases h1 : j < y <;> by_cases h2 : k < y <;> by_cases h3 : j = y <;> by_cases h4 : k = y <;> by_cases h5 : j < x <;> by_cases h6 : k < x <;> by_cases h7 : j - 1 < x <;> by_cases h8 : k - 1 < x <;> simp [h1, h2, h3, h4, h5, h6, h7, h8] at e <;> omega
theorem GoodO.taken {n x y : Nat} {f : Nat → Int} (h : GoodO n n f) (hx : x < n) (hy : y < n) : IsOrd n (ordF (takenF f x y)) :=
  ⟨fun k h0 h1 => by
    rw [ordF, takenF_sg]
    exact h.range (sg_lt hx hy (by omega)), fun j k h0 h1 h2 h3 e => by
    rw [ordF, ordF, takenF_sg, takenF_sg] at e
    have := sg_inj (h.inj (sg_lt hx hy (by omega)) (sg_lt hx hy (by omega)) e)
    omega⟩

theorem taken_ins {c : Int → Int} {x y : Nat} {i : Int} (hi : c (x : Int) = i) (k : Nat) : takenF (fun k : Nat => c (k : Int)) x y k = ins (restC c (x : Int)) i (y : Int) (k : Int) := by
  by_cases q1 : k < y
  · have q1' : (k : Int) < (y : Int) := by omega
    rw [takenF, if_pos q1, ins, if_pos q1', restF, restC]
    by_cases q2 : k < x
    · have q2' : (k : Int) < (x : Int) := by omega
      rw [if_pos q2, if_pos q2']
    · have q2' : ¬ (k : Int) < (x : Int) := by omega
      rw [if_neg q2, if_neg q2']
      show c ((k + 1 : Nat) : Int) = c ((k : Int) + 1)
      congr 1
  · have q1' : ¬ (k : Int) < (y : Int) := by omega
    rw [takenF, if_neg q1, ins, if_neg q1']
    by_cases q2 : k = y
    · have q2' : (k : Int) = (y : Int) := by omega
      rw [if_pos q2, if_pos q2']
      exact hi
    · have q2' : ¬ (k : Int) = (y : Int) := by omega
      rw [if_neg q2, if_neg q2', restF, restC]
      by_cases q3 : k - 1 < x
      · have q3' : (k : Int) - 1 < (x : Int) := by omega
        rw [if_pos q3, if_pos q3']
        show c ((k - 1 : Nat) : Int) = c ((k : Int) - 1)
        congr 1
        omega
      · have q3' : ¬ (k : Int) - 1 < (x : Int) := by omega
        rw [if_neg q3, if_neg q3']
        show c ((k - 1 + 1 : Nat) : Int) = c ((k : Int) - 1 + 1)
        congr 1
        omega
/-- the order that a Sift comes to -/
noncomputable def siftO (A : Abs) : Int → Int := open Classical in if h : ∃ e, SiftTo A.n (Vof A.fs) A.o e then ordF (fun k => Classical.choose h (k : Int)) else A.o
theorem siftO_eq {A : Abs} {e : Int → Int} (h : SiftTo A.n (Vof A.fs) A.o e) : siftO A = ordF (fun k => e (k : Int)) := by
  have hx : ∃ e, SiftTo A.n (Vof A.fs) A.o e := ⟨e, h⟩
  rw [siftO, dif_pos hx, (Classical.choose_spec hx).one h]
/-- what holds behind a Sift -/
def Sifted (A : Abs) : Prop := ∃ (f : Nat → Int) (sz0 sz1 : Nat), siftO A = ordF f ∧ GoodO A.n A.n f ∧ Cnts A.n A.o (Vof A.fs) sz0 ∧ Cnts A.n (ordF f) (Vof A.fs) sz1 ∧ sz1 ≤ sz0 ∧ ∀ x y, x < A.n → y < A.n → ∃ sz, Cnts A.n (ordF (takenF f x y)) (Vof A.fs) sz ∧ sz1 ≤ sz

theorem ps_sift {w : World} {own : Own} {tg : Tag} {s : Nat} {A : Abs} {lb : Int} (hA : AbsOk A) (h : PS w own tg s A lb) (hlb : lb + 40000000 * 20001 + 4000000 ≤ 4611686018427387904) :
    Calls Tryz.prog 45 #[.pointer (some ⟨s, 0, none⟩)] w fun e w' => e = .returned (.tuple #[]) ∧ PS w' (newOwn own w tg) tg s { A with o := siftO A } (lb + 40000000 * 20001) ∧ Only own tg w w' ∧ Sifted A := by
  obtain ⟨hb, t, bn, bm, blk, sz, h1, h3⟩ := h.sto
  refine (sift_any h1 h1.szle (by omega)).mono ?_
  rintro e w' ⟨c', sz', rfl, hS, hle, hk, hT⟩
  have hg : GoodO A.n A.n (fun k => c' (k : Int)) := ⟨rfl, fun v hv => hS.at_ (by omega) (by omega)⟩
  have heq : ∀ k, 0 ≤ k → k < (A.n : Int) → c' k = ordF (fun k => c' (k : Int)) k := fun k h0 h1 => by rw [ordF, Int.toNat_of_nonneg h0]
  refine ⟨rfl, PS.of hS (fun b hb' => newOwn_same (h3 b hb')) (by rw [siftO_eq hT]; exact heq), Only.of hk (fun b hb' => h3 b (by simp at hb' ⊢; rcases hb' with h | h | h | h <;> simp [h])), _, sz, sz', siftO_eq hT, hg, h1.cnts, hS.cnts.congr heq, hle, fun x y hx hy => ?_⟩
  obtain ⟨sz2, hc2⟩ := hS.cnts_any (hg.taken hx hy) (by omega)
  refine ⟨sz2, hc2, ?_⟩
  obtain ⟨r0, r1⟩ := hg.range hx
  obtain ⟨i, hi⟩ := Int.eq_ofNat_of_zero_le r0
  have hp : ∃ p : Nat, p < A.n ∧ c' (p : Int) = (i : Int) := ⟨x, hx, hi⟩
  have hpl := plOf_is hp
  have hplx : plOf A.n c' (i : Int) = x := hg.inj hpl.1 hx (hpl.2.trans hi.symm)
  have hl := hT.least (i := i) (by omega) hp hy
  rw [numC_eq hS.cnts, hplx] at hl
  have hc3 : Cnts A.n (ins (restC c' x) i y) (Vof A.fs) sz2 := hc2.congr (fun k h0 h1 => by
    obtain ⟨k', rfl⟩ := Int.eq_ofNat_of_zero_le h0
    rw [ordF, Int.toNat_natCast]
    exact taken_ins hi k')
  rw [numC_eq hc3] at hl
  exact hl

theorem rs_sift {w : World} {own : Own} {tg : Tag} {r : Nat} {A : Abs} (hA : AbsOk A) (h : RW w own tg r A) (hs : Sifted A) {v : Value} {base : Nat} (hrow : w.ownsRow base 3 1 v A.n (rowF A.n (fun k => siftO A (k : Int)))) :
    Calls Tryz.prog 47 #[.pointer (some ⟨r, 0, none⟩), v] w fun e w' => e = .returned (.bool true) ∧ RW w' (newOwn own w tg) tg r { A with o := siftO A } ∧ Only own tg w w' := by
  obtain ⟨ov, lv, h1, h2, h3, h4⟩ := h
  obtain ⟨f, sz0, sz1, he, hg, hc0, hc1, hle, htk⟩ := hs
  obtain ⟨g, cap, rfl⟩ := row_sliceS hrow hA.n1
  have hcap := row_cap hrow
  rw [he]
  refine (rsift_any hA h1 hcap (o := 0) (f := f) (fun k hk => ?_) hg hc0 hc1 hle htk).mono ?_
  · rw [Nat.zero_add, hrow.cellAt k (by omega), rowF_get _ hk, he, ordF, Int.toNat_natCast]
  · rintro e w' ⟨rfl, hk, ov', hR, hg'⟩
    exact ⟨rfl, ⟨ov', lv, hR, newOwn_same h2, fun g e => newOwn_new (hg' g e), fun g e => newOwn_same (h4 g e)⟩, Only.of hk (fun b hb => by simp at hb; rw [hb]; exact h2)⟩

end Go.Proofs.YtmgjegokkbghlaaGreat
