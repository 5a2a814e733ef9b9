/- Lists that are lent: lentTruths, sameTruths; an append that leaves the old list as it was. What the law holds: lists that were lent or came out; marked. The law's world: its pairs, what it holds; looks. keepTruths: a list that was lent or came out is written full, and held. keepTruths: the walk. A pair of stores more: begin. The calls that make a function: makes, made. Questions: asks. Questions: asks, Value. -/
import Derived.Test.YtmgjegokkbghlaaGreatPair
import Derived.Deep.AppendLies
import Derived.BigQuiet
import Derived.Maps.AppendAt
import Derived.Deep.RegionHeld3
namespace Go.Proofs.YtmgjegokkbghlaaGreat
open Go.RowKit Go.Maps Bdd
set_option linter.unusedVariables false
attribute [local go_sem ↓] Go.wp_at_zero Go.wp_at_succ

/-- append: in the old row, where there is room; else all that was there stays as it was -/
theorem run_append_stays {w : World} (base : Nat) (t ty e : TypeId) (i : TypeInfo) (z : Value) (size bytes : Nat) (ht : Tryz.prog.underlying t = some (.slice e)) (hi : Tryz.prog.info? e = some i) (hz : i.zero = some z) (hsize : i.size = size) (hby : i.bytes = bytes) (hzs : z.cells.size = size) (hsz : 0 < size)
    {v : Value} {n : Nat} {xs : List Value} (hown : w.ownsRow base e size v n xs) {a : Addr} {m c : Nat} {news : List Value} (hl : news.length = m * size) (hnews : ∀ j u, news[j]? = some u → w.cell? (a.add j) = some u) (h1 : ∀ u ∈ news, u.oneCell' = true) (hm : 0 < m)
    (h63 : n + m ≤ maxLen) (hbytes : (n + m) * bytes ≤ 140737488355328) (hbase : base ≤ w.heap.size) :
    ∃ g cap w', (Builtin.append_ #[t, t] ty #[v, .slice (some a) m c]).run Tryz.prog w = .ok (.slice (some ⟨g, 0, none⟩) (n + m) cap) w' ∧ w'.ownsRow base e size (.slice (some ⟨g, 0, none⟩) (n + m) cap) (n + m) (xs ++ news) ∧ ((v.ownBlock = some g ∧ w.grownBy w' (some g)) ∨ (g = w.heap.size ∧ w.grownBy w' none)) := by
  obtain ⟨v', w', hr, ho, hg, hn, hat⟩ := run_append_own_at (P := Tryz.prog) w base t ty e i z size bytes ht hi hz hsize hby hzs hsz v n xs hown a m c news hl hnews h1 h63 hbytes hbase
  obtain ⟨g, cap, rfl⟩ : ∃ g cap, v' = .slice (some ⟨g, 0, none⟩) (n + m) cap := by
    rcases ho.2 with ⟨_, h0⟩ | ⟨g, cap, cur, e, _⟩
    · omega
    · exact ⟨g, cap, e⟩
  refine ⟨g, cap, w', hr, ho, ?_⟩
  have eg : (Value.slice (some ⟨g, 0, none⟩) (n + m) cap).ownBlock = some g := rfl
  rw [eg] at hat
  rcases hown.2 with ⟨rfl, rfl⟩ | ⟨g0, cap0, cur, rfl, hbg, hgg, hnc, hcm, hcs, htake⟩
  · rcases hat with e | e
    · cases e
    · exact Or.inr ⟨by simpa using e, hg⟩
  · have eo : (Value.slice (some ⟨g0, 0, none⟩) n cap0).ownBlock = some g0 := rfl
    rw [eo] at hat hg ⊢
    by_cases hroom : n + m ≤ cap0
    · subst hsize
      have hr2 := run_append_room (P := Tryz.prog) w t ty e i ht hi g0 n cap0 cur hgg a m c news hl hnews h1 hroom (by rw [hl, hcs, ← Nat.add_mul]; exact Nat.mul_le_mul_right _ hroom)
      rw [hr2] at hr
      have e1 : g0 = g := by simp at hr; exact hr.1.1
      subst e1
      exact Or.inl ⟨rfl, hg⟩
    · subst hsize
      subst hby
      have hsmall : n + m ≤ 9223372036854775807 := by simp only [maxLen] at h63; omega
      have hr2 := run_append_grow (P := Tryz.prog) w t ty e i z ht hi hz ⟨g0, 0, none⟩ n cap0 xs hown.1 (hown.cells (g := g0) rfl) a m c news hl hnews (by omega) (by omega) (growslice_fits (by omega) hbytes)
      rw [hr2] at hr
      simp only [Result.ok.injEq, Value.slice.injEq, Option.some.injEq, Addr.mk.injEq] at hr
      obtain ⟨⟨⟨e1, _⟩, _⟩, e2⟩ := hr
      refine Or.inr ⟨e1.symm, ?_⟩
      rw [← e2]
      exact ⟨rfl, rfl, rfl, by simp, fun k hk _ => heap_alloc_old w.drew _ k hk⟩

/-- an append, where the walk meets it -/
theorem wpList_append_run {w w' : World} {ops : Array Oper} {rest : List Oper} {o : Oper} {a : Act} {Q : Exit → Act → World → Prop} (hg : o.guard = none) (s x : Operand) (t : TypeId) (hop : o.op = .call { callee := .builtin .append, args := #[s, x], argTypes := #[t, t] }) (v y r : Value) (hs : a.eval s = v) (hx : a.eval x = y) (hrun : (Builtin.append_ #[t, t] o.type #[v, y]).run Tryz.prog w = .ok r w')
    (h : wpList Tryz.prog ops Q rest (a.put o.dst r) w') : wpList Tryz.prog ops Q (o :: rest) a w := by
  refine wpList_plain hg fun K hK' => ?_
  unfold Oper.wp execOp
  simp only [hop, resolve, invoke, builtin, Sem.run_bind, Sem.run_pure, Result.andThen_ok, List.map_toArray, List.map_cons, List.map_nil, hs, hx, hrun]
  exact hK' _ _ h

/-- truth values, as a list has them -/
def rowB (L : Nat) (f : Nat → Bool) : List Value := (List.range L).map fun i => .bool (f i)
theorem rowB_len (L : Nat) (f : Nat → Bool) : (rowB L f).length = L := by simp [rowB]
theorem rowB_get {L : Nat} (f : Nat → Bool) {i : Nat} (hi : i < L) : (rowB L f)[i]? = some (.bool (f i)) := by simp [rowB, hi]
theorem rowB_set {L : Nat} {f f' : Nat → Bool} {j : Nat} {x : Bool} (hx : f' j = x) (hf : ∀ i, i ≠ j → f' i = f i) : (rowB L f).set j (.bool x) = rowB L f' := by
  apply List.ext_getElem?
  intro i
  rw [List.getElem?_set]
  by_cases e : j = i
  · subst e
    by_cases hj : j < L
    · rw [if_pos rfl, if_pos (by rw [rowB_len]; exact hj), rowB_get f' hj, hx]
    · rw [if_pos rfl, if_neg (by rw [rowB_len]; exact hj), List.getElem?_eq_none (by rw [rowB_len]; omega)]
  · rw [if_neg e]
    by_cases hi : i < L
    · rw [rowB_get f hi, rowB_get f' hi, hf i (fun e' => e e'.symm)]
    · rw [List.getElem?_eq_none (by rw [rowB_len]; omega), List.getElem?_eq_none (by rw [rowB_len]; omega)]
theorem rowB_congr {L : Nat} {f g : Nat → Bool} (h : ∀ i, i < L → f i = g i) : rowB L f = rowB L g := by
  unfold rowB
  exact List.map_congr_left (fun i hi => by rw [h i (by simpa using hi)])

/-- a list of truth values that came in -/
def TruthsIn (w : World) (a : Option Addr) (n : Nat) (f : Nat → Bool) : Prop := n = 0 ∨ ∃ vb vo, a = some ⟨vb, vo, none⟩ ∧ ∀ i, i < n → w.cell? ⟨vb, vo + i, none⟩ = some (.bool (f i))
theorem TruthsIn.keeps {w w' : World} {a : Option Addr} {n : Nat} {f : Nat → Bool} (h : TruthsIn w a n f) (hk : Keeps [] w w') : TruthsIn w' a n f := by
  rcases h with h | ⟨vb, vo, e, h⟩
  · exact Or.inl h
  · exact Or.inr ⟨vb, vo, e, fun i hi => hk.cell (h i hi) (by simp)⟩
/-- what is lent -/
def lentF (n : Nat) (f : Nat → Bool) (i : Nat) : Bool := if i < n then f i else i % 2 == 0

theorem make_bools {L : Nat} (hL : L ≤ 281474976710656) : ∀ w : World, (Instr.makeSlice 32 (.int .i64 (L : Int)) (.int .i64 (L : Int))).run Tryz.prog w = .ok (.slice (some ⟨w.heap.size, 0, none⟩) L L) (w.alloc (.cells (fillV (.bool false) L) 4)) := by
  obtain ⟨i, hi, hz0, hz1, hz2⟩ := info_parts info4
  intro w
  have := run_make (P := Tryz.prog) w 32 4 i (.bool false) Tryz.underlying32 hi hz0 .i64 .i64 (L : Int) (L : Int) (by omega) (by omega) (by rw [hz2]; omega) (by omega)
  rw [hz1, Int.toNat_natCast, made_fill _ rfl] at this
  exact this

set_option maxRecDepth 100000 in
set_option maxHeartbeats 1000000 in
theorem lentTruths_any {w : World} {a : Option Addr} {n cap : Nat} {f : Nat → Bool} (hn : n ≤ 140737488351232) (ha : TruthsIn w a n f) :
    Calls Tryz.prog 50 #[.slice a n cap] w fun e w' => ∃ g, e = .returned (.slice (some ⟨g, 0, none⟩) (n + 8) (n + 8)) ∧ w'.ownsRow w.heap.size 4 1 (.slice (some ⟨g, 0, none⟩) (n + 8) (n + 8)) (n + 8) (rowB (n + 8) (lentF n f)) ∧ Keeps [] w w' := by
  have HMB := make_bools (L := n + 8) (by omega)
  have e8 : ((n + 8 : Nat) : Int) = (n : Int) + 8 := by omega
  rw [e8] at HMB
  have HM : Hid (∀ w : World, (Instr.makeSlice 32 (.int .i64 ((n : Int) + 8)) (.int .i64 ((n : Int) + 8))).run Tryz.prog w = .ok (.slice (some ⟨w.heap.size, 0, none⟩) (n + 8) (n + 8)) (w.alloc (.cells (fillV (.bool false) (n + 8)) 4))) := HMB
  have hn1 : (n : Int) ≤ 140737488351232 := by omega
  have HA : Hid (TruthsIn w a n f) := ha
  clear ha HMB
  obtain ⟨Y, hY⟩ : ∃ Y, Y = w.alloc (.cells (fillV (.bool false) (n + 8)) 4) := ⟨_, rfl⟩
  have hkY : Keeps [] w Y := by rw [hY]; exact (Keeps.refl _ _).alloc _
  have hoY : Y.ownsRow w.heap.size 4 1 (.slice (some ⟨w.heap.size, 0, none⟩) (n + 8) (n + 8)) (n + 8) (rowB (n + 8) (fun _ => false)) := by
    rw [hY]
    have := World.ownsRow_lit (e := 4) (size := 1) (base := w.heap.size) w (fillV (.bool false) (n + 8)) (n + 8) (Nat.le_refl _) (by simp only [maxLen]; omega) (by simp [fillV])
    have e : (fillV (.bool false) (n + 8)).toList = rowB (n + 8) (fun _ => false) := by simp [fillV, rowB]
    rw [e] at this
    exact this
  have hlY : w.heap.size + 1 = Y.heap.size := by rw [hY]; simp
  go_enter Tryz.func50, Tryz.ntmps50
  go_wp2_with (first
    | (at_make; refine wpList_make_at rfl _ _ 32 rfl (.int .i64 ((n : Int) + 8)) (.int .i64 ((n : Int) + 8)) _ rfl rfl (HM.out _) ?_)
    | fail)
  rw [← hY]
  clear hY
  go_loopw [4] (fun x wr => ∃ j : Nat, j ≤ n + 8 ∧ x = .int .i64 j ∧ wr.ownsRow w.heap.size 4 1 (.slice (some ⟨w.heap.size, 0, none⟩) (n + 8) (n + 8)) (n + 8) (rowB (n + 8) (fun i => if i < j then lentF n f i else false)) ∧ Keeps [w.heap.size] Y wr) (fun x _ => n + 8 - (intOf x).toNat)
  case atStart =>
    refine ⟨0, by omega, rfl, ?_, Keeps.refl _ _⟩
    have e : rowB (n + 8) (fun i => if i < 0 then lentF n f i else false) = rowB (n + 8) (fun _ => false) := rowB_congr (fun i _ => by simp)
    rw [e]
    exact hoY
  case round =>
    obtain ⟨j, hj, rfl, hown, hk⟩ := hrel
    by_cases hlt : j < n + 8
    · have hj0 : (0 : Int) ≤ (j : Int) := by omega
      have hj1 : (j : Int) < (n : Int) + 8 := by omega
      have p1 : wr.cell? ⟨w.heap.size, j, none⟩ = some (.bool false) := by
        rw [World.ownsRow.cellAt hown j (by omega), rowB_get _ hlt]; simp
      have p2 := World.ownsRow.frozenAt hown j
      have hs1 := (World.ownsRow.stored hown j (.bool (j % 2 == 0))).1
      have hmod : ((j : Int).tmod 2 == 0) = (j % 2 == 0) := by
        rw [Int.tmod_eq_emod_of_nonneg hj0]
        have : ((j : Int) % 2 == 0) = (j % 2 == 0) := by
          by_cases e : j % 2 = 0
          · have : (j : Int) % 2 = 0 := by omega
            simp [e, this]
          · have h1 : (j % 2 == 0) = false := by simpa using e
            have h2 : ((j : Int) % 2 == 0) = false := by simp; omega
            rw [h1, h2]
        exact this
      have hmod2 : ((j : Int) % 2 == 0) = (j % 2 == 0) := by
        rw [← hmod, Int.tmod_eq_emod_of_nonneg hj0]
      have HMOD : Hid (((j : Int) % 2 == 0) = (j % 2 == 0)) := hmod2
      clear hmod hmod2
      by_cases hja : j < n
      · have hja1 : (j : Int) < (n : Int) := by omega
        obtain ⟨vb, vo, ea, hv⟩ : ∃ vb vo, a = some ⟨vb, vo, none⟩ ∧ ∀ i, i < n → w.cell? ⟨vb, vo + i, none⟩ = some (.bool (f i)) := by
          rcases HA.out with h | h
          · omega
          · exact h
        subst ea
        have hvl : vb < w.heap.size := cell_lt (hv j hja)
        have p3 := hk.cell (hkY.cell (hv j hja) (by simp)) (by simp; omega)
        have p4 : (wr.setCell ⟨w.heap.size, j, none⟩ (.bool (j % 2 == 0))).cell? ⟨vb, vo + j, none⟩ = some (.bool (f j)) := by
          rw [World.cell?_setCell_far _ _ _ _ (by simp; omega)]
          exact p3
        have p5 : (wr.setCell ⟨w.heap.size, j, none⟩ (.bool (j % 2 == 0))).cell? ⟨w.heap.size, j, none⟩ = some (.bool (j % 2 == 0)) := World.cell?_setCell_same _ _ _ p1
        have p6 := World.ownsRow.frozenAt hs1 j
        have hs2 := (World.ownsRow.stored hs1 j (.bool (f j))).1
        rw [rowB_set (f' := fun i => if i = j then (j % 2 == 0) else if i < j then lentF n f i else false) (by simp) (fun i hi => by simp [hi]), rowB_set (f' := fun i => if i < j + 1 then lentF n f i else false) (by simp [lentF, hja]) (fun i hi => by
          by_cases e : i < j
          · simp [e, hi]; omega
          · have : ¬ i < j + 1 := by omega
            simp [e, hi, this])] at hs2
        obtain ⟨fj, hfj⟩ : ∃ fj, fj = f j := ⟨_, rfl⟩
        rw [← hfj] at p3 p4 hs2
        obtain ⟨bj, hbj⟩ : ∃ bj, bj = (j % 2 == 0) := ⟨_, rfl⟩
        rw [← hbj] at p4 p5 p6 hs2 HMOD
        have HM2 : ((j : Int) % 2 == 0) = bj := HMOD.out
        have HS : Hid (((wr.setCell ⟨w.heap.size, j, none⟩ (.bool bj)).setCell ⟨w.heap.size, j, none⟩ (.bool fj)).ownsRow w.heap.size 4 1 (.slice (some ⟨w.heap.size, 0, none⟩) (n + 8) (n + 8)) (n + 8) (rowB (n + 8) (fun i => if i < j + 1 then lentF n f i else false))) := hs2
        clear hs1 hs2 hown hfj hbj hv
        go_wp2_with fail
        go_roundw
        case rel =>
          exact ⟨j + 1, by omega, by go_num, HS.out, (hk.setCell _ (Or.inl (by simp)) _).setCell _ (Or.inl (by simp)) _⟩
        case measure => simp [intOf]; omega
      · have hja1 : (n : Int) ≤ (j : Int) := by omega
        rw [rowB_set (f' := fun i => if i < j + 1 then lentF n f i else false) (by simp [lentF, hja]) (fun i hi => by
          by_cases e : i < j
          · simp [e]; omega
          · have : ¬ i < j + 1 := by omega
            simp [e, this])] at hs1
        obtain ⟨bj, hbj⟩ : ∃ bj, bj = (j % 2 == 0) := ⟨_, rfl⟩
        rw [← hbj] at hs1 HMOD
        have HM2 : ((j : Int) % 2 == 0) = bj := HMOD.out
        have HS : Hid ((wr.setCell ⟨w.heap.size, j, none⟩ (.bool bj)).ownsRow w.heap.size 4 1 (.slice (some ⟨w.heap.size, 0, none⟩) (n + 8) (n + 8)) (n + 8) (rowB (n + 8) (fun i => if i < j + 1 then lentF n f i else false))) := hs1
        clear hs1 hown hbj
        go_wp2_with fail
        go_roundw
        case rel =>
          exact ⟨j + 1, by omega, by go_num, HS.out, hk.setCell _ (Or.inl (by simp)) _⟩
        case measure => simp [intOf]; omega
    · have e : j = n + 8 := by omega
      have hj1 : (n : Int) + 8 ≤ (j : Int) := by omega
      have HO : Hid (wr.ownsRow w.heap.size 4 1 (.slice (some ⟨w.heap.size, 0, none⟩) (n + 8) (n + 8)) (n + 8) (rowB (n + 8) (lentF n f))) := by
        have e2 : rowB (n + 8) (fun i => if i < j then lentF n f i else false) = rowB (n + 8) (lentF n f) := rowB_congr (fun i hi => by rw [if_pos (by omega)])
        rw [← e2]
        exact hown
      clear hown
      go_wp2_with fail
      go_ret
      exact ⟨_, rfl, HO.out, ((hkY.mono (by simp)).trans hk).strike (by simp)⟩

set_option maxRecDepth 100000 in
set_option maxHeartbeats 1000000 in
theorem sameTruths_any {w : World} {n g g' cap cap' : Nat} {f : Nat → Bool} (hn : n ≤ 4611686018427387904) (h1 : ∀ i, i < n → w.cell? ⟨g, i, none⟩ = some (.bool (f i))) (h2 : ∀ i, i < n → w.cell? ⟨g', i, none⟩ = some (.bool (f i))) :
    Calls Tryz.prog 52 #[.slice (some ⟨g, 0, none⟩) n cap, .slice (some ⟨g', 0, none⟩) n cap'] w fun e w' => e = .returned (.bool true) ∧ Keeps [] w w' := by
  have hn1 : (n : Int) ≤ 4611686018427387904 := by omega
  go_enter Tryz.func52, Tryz.ntmps52
  go_wp2_with fail
  go_loopw [5] (fun x wr => ∃ j : Nat, j ≤ n ∧ x = .int .i64 j ∧ Keeps [] w wr) (fun x _ => n - (intOf x).toNat)
  case atStart => exact ⟨0, by omega, rfl, Keeps.refl _ _⟩
  case round =>
    obtain ⟨j, hj, rfl, hk⟩ := hrel
    by_cases hlt : j < n
    · have hj0 : (0 : Int) ≤ (j : Int) := by omega
      have hj1 : (j : Int) < (n : Int) := by omega
      have p1 := hk.cell (h1 j hlt) (by simp)
      have p2 := hk.cell (h2 j hlt) (by simp)
      obtain ⟨b, hb⟩ : ∃ b, b = f j := ⟨_, rfl⟩
      rw [← hb] at p1 p2
      clear hb
      go_wp2_with fail
      go_quiet (fail)
      go_wp2_with fail
      go_roundw
      case rel => exact ⟨j + 1, by omega, by go_num, hk.drewN _⟩
      case measure => simp [intOf]; omega
    · have e : (n : Int) ≤ (j : Int) := by omega
      go_wp2_with fail
      go_ret
      exact ⟨rfl, hk⟩

end Go.Proofs.YtmgjegokkbghlaaGreat

namespace Go.Proofs.YtmgjegokkbghlaaGreat
open Go.RowKit Go.Maps Bdd
set_option linter.unusedVariables false
attribute [local go_sem ↓] Go.wp_at_zero Go.wp_at_succ

/-- a list whose cells are all of one value -/
def AllC (w : World) (own : Own) (tg : Tag) (u x : Value) : Prop := ∃ a n cap, u = .slice a n cap ∧ n ≤ 140737488355328 ∧ (n = 0 ∨ ∃ g, a = some ⟨g, 0, none⟩ ∧ own g = tg ∧ ∀ i, i < n → w.cell? ⟨g, i, none⟩ = some x)
/-- a list of such lists -/
def ListC (w : World) (own : Own) (tg : Tag) (v x : Value) : Prop := ∃ a n cap, v = .slice a n cap ∧ n ≤ 9 ∧ (n = 0 ∨ ∃ g, a = some ⟨g, 0, none⟩ ∧ own g = tg ∧ ∀ i, i < n → ∃ u, w.cell? ⟨g, i, none⟩ = some u ∧ AllC w own tg u x)
/-- A HOLD: every place reads as it was written -/
def HoldOk (w : World) (own : Own) (tg : Tag) (h : Nat) : Prop := own h = tg ∧ ∃ (iv tv : Value) (m : Int) (b : Bool), w.cell? ⟨h, 0, none⟩ = some iv ∧ w.cell? ⟨h, 1, none⟩ = some tv ∧ w.cell? ⟨h, 2, none⟩ = some (.slice none 0 0) ∧ w.cell? ⟨h, 3, none⟩ = some (.int .i64 m) ∧ w.cell? ⟨h, 4, none⟩ = some (.bool b) ∧ ListC w own tg iv (.int .i64 m) ∧ ListC w own tg tv (.bool b)

section
variable {w w' : World} {own own' : Own} {tg : Tag} {T : Tag → Prop}
theorem AllC.frame {u x : Value} (h : AllC w own tg u x) (ho : Onlys own T w w') (hne : ¬ T tg) (hown : ∀ b, b < w.heap.size → own b = tg → own' b = tg) : AllC w' own' tg u x := by
  obtain ⟨a, n, cap, e, hn, h⟩ := h
  refine ⟨a, n, cap, e, hn, ?_⟩
  rcases h with h | ⟨g, ea, hg, hc⟩
  · exact Or.inl h
  · by_cases h0 : n = 0
    · exact Or.inl h0
    · exact Or.inr ⟨g, ea, hown g (cell_lt (hc 0 (by omega))) hg, fun i hi => ho.cell (hc i hi) (by show ¬ T (own g); rw [hg]; exact hne)⟩
theorem ListC.frame {v x : Value} (h : ListC w own tg v x) (ho : Onlys own T w w') (hne : ¬ T tg) (hown : ∀ b, b < w.heap.size → own b = tg → own' b = tg) : ListC w' own' tg v x := by
  obtain ⟨a, n, cap, e, hn, h⟩ := h
  refine ⟨a, n, cap, e, hn, ?_⟩
  rcases h with h | ⟨g, ea, hg, hc⟩
  · exact Or.inl h
  · by_cases h0 : n = 0
    · exact Or.inl h0
    · obtain ⟨u0, hu0, _⟩ := hc 0 (by omega)
      refine Or.inr ⟨g, ea, hown g (cell_lt hu0) hg, fun i hi => ?_⟩
      obtain ⟨u, hu, hall⟩ := hc i hi
      exact ⟨u, ho.cell hu (by show ¬ T (own g); rw [hg]; exact hne), hall.frame ho hne hown⟩
theorem HoldOk.frame {h : Nat} (hh : HoldOk w own tg h) (ho : Onlys own T w w') (hne : ¬ T tg) (hown : ∀ b, b < w.heap.size → own b = tg → own' b = tg) : HoldOk w' own' tg h := by
  obtain ⟨h0, iv, tv, m, b, c0, c1, c2, c3, c4, hi, ht⟩ := hh
  have hnt : ¬ T (own h) := by rw [h0]; exact hne
  exact ⟨hown h (cell_lt c0) h0, iv, tv, m, b, ho.cell c0 hnt, ho.cell c1 hnt, ho.cell c2 hnt, ho.cell c3 hnt, ho.cell c4 hnt, hi.frame ho hne hown, ht.frame ho hne hown⟩
end

set_option maxRecDepth 100000 in
set_option maxHeartbeats 4000000 in
theorem marked_any {w : World} {own : Own} {tg : Tag} {h : Nat} (H : HoldOk w own tg h) : Calls Tryz.prog 20 #[.pointer (some ⟨h, 0, none⟩)] w fun e w' => e = .returned (.bool true) ∧ Keeps [] w w' := by
  obtain ⟨_, iv, tv, m, b, c0, c1, c2, c3, c4, hi, ht⟩ := H
  obtain ⟨ia, il, ic, rfl, hil, hi⟩ := hi
  obtain ⟨ta, tl, tc, rfl, htl, ht⟩ := ht
  have hil' : (il : Int) ≤ 9 := by omega
  have htl' : (tl : Int) ≤ 9 := by omega
  have HI : Hid (il = 0 ∨ ∃ g, ia = some ⟨g, 0, none⟩ ∧ own g = tg ∧ ∀ i, i < il → ∃ u, w.cell? ⟨g, i, none⟩ = some u ∧ AllC w own tg u (.int .i64 m)) := hi
  have HT : Hid (tl = 0 ∨ ∃ g, ta = some ⟨g, 0, none⟩ ∧ own g = tg ∧ ∀ i, i < tl → ∃ u, w.cell? ⟨g, i, none⟩ = some u ∧ AllC w own tg u (.bool b)) := ht
  clear hi ht
  go_enter Tryz.func20, Tryz.ntmps20
  go_wp2_with fail
  go_loopw [3] (fun x wr => ∃ j : Nat, j ≤ il ∧ x = .int .i64 j ∧ Keeps [] w wr) (fun x _ => il - (intOf x).toNat)
  case atStart => exact ⟨0, by omega, rfl, Keeps.refl _ _⟩
  case round =>
    obtain ⟨j, hj, rfl, hk⟩ := hrel
    have d0 := hk.cell c0 (by simp)
    by_cases hlt : j < il
    · have hj0 : (0 : Int) ≤ (j : Int) := by omega
      have hj1 : (j : Int) < (il : Int) := by omega
      obtain ⟨g, ea, _, hcells⟩ : ∃ g, ia = some ⟨g, 0, none⟩ ∧ own g = tg ∧ ∀ i, i < il → ∃ u, w.cell? ⟨g, i, none⟩ = some u ∧ AllC w own tg u (.int .i64 m) := by
        rcases HI.out with h | h
        · omega
        · exact h
      subst ea
      obtain ⟨u, hu, ua, un, uc, rfl, hun, hall⟩ := hcells j hlt
      have HALL : Hid (un = 0 ∨ ∃ g, ua = some ⟨g, 0, none⟩ ∧ own g = tg ∧ ∀ i, i < un → w.cell? ⟨g, i, none⟩ = some (.int .i64 m)) := hall
      have hun' : (un : Int) ≤ 140737488355328 := by omega
      clear hall hcells
      go_wp2_with fail
      go_loopw [4] (fun y wq => ∃ k : Nat, k ≤ un ∧ y = .int .i64 k ∧ Keeps [] w wq) (fun y _ => un - (intOf y).toNat)
      case atStart => exact ⟨0, by omega, rfl, hk⟩
      case round =>
        obtain ⟨k, hkn, rfl, hq⟩ := hrel
        have q0 := hq.cell c0 (by simp)
        have q1 := hq.cell hu (by simp)
        by_cases hlk : k < un
        · have hk0 : (0 : Int) ≤ (k : Int) := by omega
          have hk1 : (k : Int) < (un : Int) := by omega
          obtain ⟨g2, ea2, _, hc2⟩ : ∃ g, ua = some ⟨g, 0, none⟩ ∧ own g = tg ∧ ∀ i, i < un → w.cell? ⟨g, i, none⟩ = some (.int .i64 m) := by
            rcases HALL.out with h | h
            · omega
            · exact h
          subst ea2
          have q2 := hq.cell (hc2 k hlk) (by simp)
          have q3 := hq.cell c3 (by simp)
          clear hc2
          go_wp2_with fail
          go_quiet (fail)
          go_wp2_with fail
          go_roundw
          case rel => exact ⟨k + 1, by omega, by go_num, hq.drewN _⟩
          case measure => simp [intOf]; omega
        · have hk1 : (un : Int) ≤ (k : Int) := by omega
          go_wp2_with fail
          go_roundw
          case rel => exact ⟨j + 1, by omega, by go_num, hq⟩
          case measure => simp [intOf]; omega
    · have hj1 : (il : Int) ≤ (j : Int) := by omega
      have d2 := hk.cell c2 (by simp)
      go_wp2_with fail
      go_loopw [5] (fun x wq => x = .int .i64 0 ∧ Keeps [] w wq) (fun _ _ => 0)
      case atStart => exact ⟨rfl, hk⟩
      case round =>
        obtain ⟨rfl, hk2⟩ := hrel
        have e2 := hk2.cell c2 (by simp)
        go_wp2_with fail
        go_loopw [7] (fun x wr => ∃ j : Nat, j ≤ tl ∧ x = .int .i64 j ∧ Keeps [] w wr) (fun x _ => tl - (intOf x).toNat)
        case atStart => exact ⟨0, by omega, rfl, hk2⟩
        case round =>
          obtain ⟨j, hj, rfl, hk⟩ := hrel
          have d1 := hk.cell c1 (by simp)
          by_cases hlt : j < tl
          · have hj0 : (0 : Int) ≤ (j : Int) := by omega
            have hj1 : (j : Int) < (tl : Int) := by omega
            obtain ⟨g, ea, _, hcells⟩ : ∃ g, ta = some ⟨g, 0, none⟩ ∧ own g = tg ∧ ∀ i, i < tl → ∃ u, w.cell? ⟨g, i, none⟩ = some u ∧ AllC w own tg u (.bool b) := by
              rcases HT.out with h | h
              · omega
              · exact h
            subst ea
            obtain ⟨u, hu, ua, un, uc, rfl, hun, hall⟩ := hcells j hlt
            have HALL : Hid (un = 0 ∨ ∃ g, ua = some ⟨g, 0, none⟩ ∧ own g = tg ∧ ∀ i, i < un → w.cell? ⟨g, i, none⟩ = some (.bool b)) := hall
            have hun' : (un : Int) ≤ 140737488355328 := by omega
            clear hall hcells
            go_wp2_with fail
            go_loopw [8] (fun y wq => ∃ k : Nat, k ≤ un ∧ y = .int .i64 k ∧ Keeps [] w wq) (fun y _ => un - (intOf y).toNat)
            case atStart => exact ⟨0, by omega, rfl, hk⟩
            case round =>
              obtain ⟨k, hkn, rfl, hq⟩ := hrel
              have q0 := hq.cell c1 (by simp)
              have q1 := hq.cell hu (by simp)
              by_cases hlk : k < un
              · have hk0 : (0 : Int) ≤ (k : Int) := by omega
                have hk1 : (k : Int) < (un : Int) := by omega
                obtain ⟨g2, ea2, _, hc2⟩ : ∃ g, ua = some ⟨g, 0, none⟩ ∧ own g = tg ∧ ∀ i, i < un → w.cell? ⟨g, i, none⟩ = some (.bool b) := by
                  rcases HALL.out with h | h
                  · omega
                  · exact h
                subst ea2
                have q2 := hq.cell (hc2 k hlk) (by simp)
                have q3 := hq.cell c4 (by simp)
                clear hc2
                go_wp2_with fail
                go_quiet (fail)
                go_wp2_with fail
                go_roundw
                case rel => exact ⟨k + 1, by omega, by go_num, hq.drewN _⟩
                case measure => simp [intOf]; omega
              · have hk1 : (un : Int) ≤ (k : Int) := by omega
                go_wp2_with fail
                go_roundw
                case rel => exact ⟨j + 1, by omega, by go_num, hq⟩
                case measure => simp [intOf]; omega
          · have hj1 : (tl : Int) ≤ (j : Int) := by omega
            go_wp2_with fail
            go_ret
            exact ⟨rfl, hk⟩

end Go.Proofs.YtmgjegokkbghlaaGreat

namespace Go.Proofs.YtmgjegokkbghlaaGreat
open Go.RowKit Go.Maps Bdd
set_option linter.unusedVariables false
attribute [local go_sem ↓] Go.wp_at_zero Go.wp_at_succ

/-- a pair: the program's store, its twin, the document's; what they hold -/
structure Pr where
  p : Nat
  q : Nat
  r : Nat
  A : Abs
def ptr (b : Nat) : Value := .pointer (some ⟨b, 0, none⟩)
def prV (x : Pr) : List Value := [ptr x.p, ptr x.q, ptr x.r]
def flatP (ps : List Pr) : List Value := (ps.map prV).flatten
theorem flatP_snoc (ps : List Pr) (x : Pr) : flatP (ps ++ [x]) = flatP ps ++ [ptr x.p, ptr x.q, ptr x.r] := by simp [flatP, prV]
theorem flatP_get : ∀ (ps : List Pr) (i : Nat) (x : Pr), ps[i]? = some x → (flatP ps)[i * 3]? = some (ptr x.p) ∧ (flatP ps)[i * 3 + 1]? = some (ptr x.q) ∧ (flatP ps)[i * 3 + 2]? = some (ptr x.r)
  | [], i, x, h => by simp at h
  | y :: r, 0, x, h => by simp at h; subst h; simp [flatP, prV]
  | y :: r, i + 1, x, h => by
    have := flatP_get r i x (by simpa using h)
    have e1 : (i + 1) * 3 = i * 3 + 1 + 1 + 1 := by omega
    have e3 : flatP (y :: r) = ptr y.p :: ptr y.q :: ptr y.r :: flatP r := by simp [flatP, prV]
    rw [e1, e3]
    simpa using this
theorem set_same {α : Type} : ∀ (l : List α) (i : Nat) (x : α), l[i]? = some x → l.set i x = l
  | [], i, x, h => by simp
  | y :: r, 0, x, h => by simp at h; subst h; simp
  | y :: r, i + 1, x, h => by simp only [List.set_cons_succ]; rw [set_same r i x (by simpa using h)]
theorem flatP_set {ps : List Pr} {i : Nat} {x x' : Pr} (h : ps[i]? = some x) (e : prV x' = prV x) : flatP (ps.set i x') = flatP ps := by
  unfold flatP
  rw [List.map_set, e, set_same _ _ _ (by simp [h])]

/-- A PAIR: the three hold the same -/
def PairOk (w : World) (own : Own) (i : Nat) (x : Pr) (K : Nat) : Prop := AbsOk x.A ∧ x.A.la ≤ (K : Int) ∧ PS w own (2, i) x.p x.A (1 + 100000 * (K : Int)) ∧ PS w own (3, i) x.q x.A (1 + 100000 * (K : Int)) ∧ RW w own (4, i) x.r x.A
theorem PairOk.wider {w : World} {own : Own} {i : Nat} {x : Pr} {K K' : Nat} (h : PairOk w own i x K) (hk : K ≤ K') : PairOk w own i x K' := by
  obtain ⟨h1, h2, h3, h4, h5⟩ := h
  exact ⟨h1, by omega, h3.wider (by omega), h4.wider (by omega), h5⟩
theorem PairOk.frame {w w' : World} {own own' : Own} {i : Nat} {x : Pr} {K : Nat} {T : Tag → Prop} (h : PairOk w own i x K) (ho : Onlys own T w w') (t2 : ¬ T (2, i)) (t3 : ¬ T (3, i)) (t4 : ¬ T (4, i)) (o2 : ∀ b, b < w.heap.size → own b = (2, i) → own' b = (2, i)) (o3 : ∀ b, b < w.heap.size → own b = (3, i) → own' b = (3, i)) (o4 : ∀ b, b < w.heap.size → own b = (4, i) → own' b = (4, i)) : PairOk w' own' i x K := by
  obtain ⟨h1, h2, h3, h4, h5⟩ := h
  exact ⟨h1, h2, h3.frame ho t2 o2, h4.frame ho t3 o3, h5.frame h1 ho t4 o4⟩

/-- THE LAW'S WORLD, at W: its pairs (those of Q are told), what it holds; nothing was hurt; what was there ahead of it (w0) is as it was. -/
structure WX (Q : Nat → Prop) (w0 w : World) (own : Own) (W : Nat) (ps : List Pr) (hs : List Nat) (K : Nat) : Prop where
  low : Keeps [] w0 w
  mine : ∀ b, b < w0.heap.size → own b = (0, 1)
  ow : own W = (1, 0)
  fr : ∀ j, w.frozen? ⟨W, j, none⟩ = false
  c0 : ∃ pv, w.cell? ⟨W, 0, none⟩ = some pv ∧ w.ownsRow 0 44 3 pv ps.length (flatP ps) ∧ pv.ownBlock ≠ some W ∧ ∀ g, pv.ownBlock = some g → own g = (1, 0)
  c1 : ∃ hv, w.cell? ⟨W, 1, none⟩ = some hv ∧ w.ownsRow 0 51 1 hv hs.length (hs.map ptr) ∧ hv.ownBlock ≠ some W ∧ ∀ g, hv.ownBlock = some g → own g = (1, 0)
  c2 : w.cell? ⟨W, 2, none⟩ = some (.bool false)
  prs : ∀ i x, Q i → ps[i]? = some x → PairOk w own i x K
  hds : ∀ j h, hs[j]? = some h → HoldOk w own (5, j) h
  kp : ps.length ≤ K
  kh : hs.length ≤ K
abbrev WAt := WX (fun _ => True)

section
variable {Q : Nat → Prop} {w0 w w' : World} {own own' : Own} {W : Nat} {ps : List Pr} {hs : List Nat} {K : Nat}
theorem WX.lt (h : WX Q w0 w own W ps hs K) : W < w.heap.size := cell_lt (p := ⟨W, 2, none⟩) h.c2
theorem WX.sub {Q' : Nat → Prop} (h : WX Q w0 w own W ps hs K) (hq : ∀ i, Q' i → Q i) : WX Q' w0 w own W ps hs K :=
  ⟨h.low, h.mine, h.ow, h.fr, h.c0, h.c1, h.c2, fun i x hi hx => h.prs i x (hq i hi) hx, h.hds, h.kp, h.kh⟩
theorem WX.wider {K' : Nat} (h : WX Q w0 w own W ps hs K) (hk : K ≤ K') : WX Q w0 w own W ps hs K' :=
  ⟨h.low, h.mine, h.ow, h.fr, h.c0, h.c1, h.c2, fun i x hi hx => (h.prs i x hi hx).wider hk, h.hds, Nat.le_trans h.kp hk, Nat.le_trans h.kh hk⟩
/-- what was there stays as it was -/
theorem low_keeps {T : Tag → Prop} (low : Keeps [] w0 w) (mine : ∀ b, b < w0.heap.size → own b = (0, 1)) (ho : Onlys own T w w') (t0 : ¬ T (0, 1)) : Keeps [] w0 w' := by
  obtain ⟨S, hk, g⟩ := ho
  refine ((low.mono (by simp)).trans hk).strike (fun i hi hl => ?_)
  rcases g i hi with e | e
  · rw [mine i hl] at e
    exact absurd e t0
  · have := low.size; omega
theorem WX.frame {T : Tag → Prop} (h : WX Q w0 w own W ps hs K) (ho : Onlys own T w w') (t0 : ¬ T (0, 1)) (t1 : ¬ T (1, 0)) (t2 : ∀ i, Q i → ¬ T (2, i)) (t3 : ∀ i, Q i → ¬ T (3, i)) (t4 : ∀ i, Q i → ¬ T (4, i)) (t5 : ∀ i, ¬ T (5, i))
    (hown : ∀ b tg, b < w.heap.size → tg ≠ (0, 0) → own b = tg → own' b = tg) (hs0 : w0.heap.size ≤ w.heap.size) : WX Q w0 w' own' W ps hs K := by
  have nW : ¬ T (own W) := by rw [h.ow]; exact t1
  have hW := h.lt
  obtain ⟨pv, p1, p2, p3, p4⟩ := h.c0
  obtain ⟨hv, q1, q2, q3, q4⟩ := h.c1
  refine ⟨low_keeps h.low h.mine ho t0, fun b hb => hown b _ (by omega) (by simp) (h.mine b hb), hown W _ hW (by simp) h.ow, fun j => (ho.frozen (p := ⟨W, j, none⟩) hW nW).trans (h.fr j), ⟨pv, ho.cell p1 nW, ho.row p2 (fun g hg => by rw [p4 g hg]; exact t1), p3, fun g hg => hown g _ (p2.lt g hg).2 (by simp) (p4 g hg)⟩, ⟨hv, ho.cell q1 nW, ho.row q2 (fun g hg => by rw [q4 g hg]; exact t1), q3, fun g hg => hown g _ (q2.lt g hg).2 (by simp) (q4 g hg)⟩, ho.cell h.c2 nW, fun i x hi hx => ?_, fun j x hx => ?_, h.kp, h.kh⟩
  · exact (h.prs i x hi hx).frame ho (t2 i hi) (t3 i hi) (t4 i hi) (fun b hb e => hown b _ hb (by simp) e) (fun b hb e => hown b _ hb (by simp) e) (fun b hb e => hown b _ hb (by simp) e)
  · exact (h.hds j x hx).frame ho (t5 j) (fun b hb e => hown b _ hb (by simp) e)
theorem WX.keeps (h : WX Q w0 w own W ps hs K) (hk : Keeps [] w w') (hown : ∀ b tg, b < w.heap.size → tg ≠ (0, 0) → own b = tg → own' b = tg) : WX Q w0 w' own' W ps hs K :=
  h.frame (T := fun _ => False) (Onlys.nil hk) (by simp) (by simp) (by simp) (by simp) (by simp) (by simp) hown h.low.size

set_option maxRecDepth 100000 in
set_option maxHeartbeats 1000000 in
theorem looks_any (h : WX Q w0 w own W ps hs K) (hK : K ≤ 4611686018427387904) : Calls Tryz.prog 10 #[ptr W] w fun e w' => e = .returned (.bool true) ∧ Keeps [] w w' := by
  obtain ⟨hv, q1, q2, q3, q4⟩ := h.c1
  obtain ⟨a, n, cap, hn, rfl, hcells⟩ : ∃ a n cap, n = hs.length ∧ hv = .slice a n cap ∧ (n = 0 ∨ ∃ g, a = some ⟨g, 0, none⟩ ∧ ∀ i, i < n → ∃ x, hs[i]? = some x ∧ w.cell? ⟨g, i, none⟩ = some (.pointer (some ⟨x, 0, none⟩))) := by
    rcases q2.2 with ⟨e, h0⟩ | ⟨g, cap, cur, e, _⟩
    · exact ⟨none, 0, 0, h0.symm, e, Or.inl rfl⟩
    · subst e
      refine ⟨_, hs.length, cap, rfl, rfl, Or.inr ⟨g, rfl, fun i hi => ?_⟩⟩
      refine ⟨hs[i], List.getElem?_eq_getElem hi, ?_⟩
      rw [World.ownsRow.cellAt q2 i (by omega)]
      simp [hi, ptr]
  have hnK : (n : Int) ≤ 4611686018427387904 := by have := h.kh; omega
  have c2 := h.c2
  have HD : Hid (∀ j x, hs[j]? = some x → HoldOk w own (5, j) x) := h.hds
  have HC : Hid (n = 0 ∨ ∃ g, a = some ⟨g, 0, none⟩ ∧ ∀ i, i < n → ∃ x, hs[i]? = some x ∧ w.cell? ⟨g, i, none⟩ = some (.pointer (some ⟨x, 0, none⟩))) := hcells
  clear hcells q2 q3 q4 h hn
  unfold ptr
  go_enter Tryz.func10, Tryz.ntmps10
  go_wp2_with fail
  go_loopw [3] (fun x wr => ∃ j : Nat, j ≤ n ∧ x = .int .i64 j ∧ Keeps [] w wr) (fun x _ => n - (intOf x).toNat)
  case atStart => exact ⟨0, by omega, rfl, Keeps.refl _ _⟩
  case round =>
    obtain ⟨j, hj, rfl, hk⟩ := hrel
    have d1 := hk.cell q1 (by simp)
    by_cases hlt : j < n
    · have hj0 : (0 : Int) ≤ (j : Int) := by omega
      have hj1 : (j : Int) < (n : Int) := by omega
      obtain ⟨g, ea, hc⟩ : ∃ g, a = some ⟨g, 0, none⟩ ∧ ∀ i, i < n → ∃ x, hs[i]? = some x ∧ w.cell? ⟨g, i, none⟩ = some (.pointer (some ⟨x, 0, none⟩)) := by
        rcases HC.out with h | h
        · omega
        · exact h
      subst ea
      obtain ⟨x, hx, hcx⟩ := hc j hlt
      have p1 := hk.cell hcx (by simp)
      have hm := marked_any ((HD.out j x hx).frame (T := fun _ => False) (own' := own) (Onlys.nil hk) (by simp) (fun b _ e => e))
      clear hc hcx hx
      go_wp2_with fail
      refine hm.mono ?_
      rintro e w1 ⟨rfl, hk1⟩
      go_wp2_with fail
      go_roundw
      case rel => exact ⟨j + 1, by omega, by go_num, hk.trans hk1⟩
      case measure => simp [intOf]; omega
    · have hj1 : (n : Int) ≤ (j : Int) := by omega
      have d2 := hk.cell c2 (by simp)
      go_wp2_with fail
      go_ret
      exact ⟨rfl, hk⟩
end

end Go.Proofs.YtmgjegokkbghlaaGreat

namespace Go.Proofs.YtmgjegokkbghlaaGreat
open Go.RowKit Go.Maps Bdd
set_option linter.unusedVariables false
attribute [local go_sem ↓] Go.wp_at_zero Go.wp_at_succ

/-- a block of that type -/
def Of (w : World) (g : Nat) (e : TypeId) : Prop := ∃ cur, w.heap[g]? = some (.cells cur e (0, 0))
theorem Of.ne {w : World} {g g' : Nat} {e e' : TypeId} (h : Of w g e) (h' : Of w g' e') (hn : e ≠ e') : g ≠ g' := by
  rintro rfl
  obtain ⟨c, h⟩ := h
  obtain ⟨c', h'⟩ := h'
  rw [h] at h'
  simp at h'
  exact hn h'.2
theorem Of.keeps {w w' : World} {g : Nat} {e : TypeId} {S : List Nat} (h : Of w g e) (hk : Keeps S w w') (hg : g ∉ S) : Of w' g e := by
  obtain ⟨c, h⟩ := h
  exact ⟨c, by rw [hk.block g (Array.getElem?_eq_some_iff.1 h).1 hg]; exact h⟩
theorem row_of {w : World} {base : Nat} {e : TypeId} {size : Nat} {v : Value} {n : Nat} {xs : List Value} (h : w.ownsRow base e size v n xs) : ∀ g, v.ownBlock = some g → Of w g e := by
  intro g hg
  rcases h.2 with ⟨rfl, _⟩ | ⟨g', cap, cur, rfl, _, hh, _⟩
  · cases hg
  · have : g' = g := by have : some g' = some g := hg; simpa using this
    subst this
    exact ⟨cur, hh⟩
theorem rows_apart {w : World} {b1 b2 : Nat} {e1 e2 : TypeId} {s1 s2 n1 n2 : Nat} {v1 v2 : Value} {x1 x2 : List Value} (h1 : w.ownsRow b1 e1 s1 v1 n1 x1) (h2 : w.ownsRow b2 e2 s2 v2 n2 x2) (hn : e1 ≠ e2) : ∀ g, v1.ownBlock = some g → v2.ownBlock ≠ some g :=
  fun g hg hg' => (row_of h1 g hg).ne (row_of h2 g hg') hn rfl

/-- a hold on the way: the list l of k places is written full; us: the lists so far -/
structure KT (w : World) (B : Nat) (x : Value) (e4 e32 : TypeId) (vo : Option Nat) (slot : Nat) (C : Nat → Option Value) (base k : Nat) (l tv : Value) (us : List Value) (wr : World) : Prop where
  hl : wr.ownsRow base e4 1 l k (List.replicate k x)
  c1 : wr.cell? ⟨B, slot, none⟩ = some tv
  fr : ∀ j, wr.frozen? ⟨B, j, none⟩ = false
  ht : wr.ownsRow (B + 1) e32 1 tv us.length us
  hu : ∀ u ∈ us, ∃ a n cap, u = .slice a n cap ∧ n ≤ k ∧ (n = 0 ∨ ∃ g, a = some ⟨g, 0, none⟩ ∧ (g < B → vo = some g) ∧ g ≠ B ∧ Of wr g e4 ∧ ∀ i, i < n → wr.cell? ⟨g, i, none⟩ = some x)
  lo : ∀ g, l.ownBlock = some g → (g < B → vo = some g) ∧ g ≠ B
  kp : Keeps vo.toList w wr
  cs : ∀ j v, j ≠ slot → C j = some v → wr.cell? ⟨B, j, none⟩ = some v

section
variable {w wr w2 : World} {B base k slot : Nat} {x : Value} {e4 e32 : TypeId} {vo : Option Nat} {C : Nat → Option Value} {l tv : Value} {us : List Value}
theorem KT.keeps {S : List Nat} (h : KT w B x e4 e32 vo slot C base k l tv us wr) (hk : Keeps S wr w2) (hS : ∀ i ∈ S, w.heap.size ≤ i ∨ vo = some i) (hB : B ∉ S) (hB2 : B < wr.heap.size) (hl' : ∀ g, l.ownBlock = some g → g ∉ S) (ht' : ∀ g, tv.ownBlock = some g → g ∉ S) (hu' : ∀ g, Of wr g e4 → g ∉ S) : KT w B x e4 e32 vo slot C base k l tv us w2 := by
  refine ⟨row_keeps h.hl hk hl', hk.cell h.c1 hB, fun j => (hk.frozen (p := ⟨B, j, none⟩) hB2 hB).trans (h.fr j), row_keeps h.ht hk ht', fun u hin => ?_, h.lo, ?_, fun j v hj hc => hk.cell (h.cs j v hj hc) hB⟩
  · obtain ⟨a, n, cap, e, hn, hc⟩ := h.hu u hin
    refine ⟨a, n, cap, e, hn, ?_⟩
    rcases hc with h0 | ⟨g, ea, g1, g2, g3, g4⟩
    · exact Or.inl h0
    · exact Or.inr ⟨g, ea, g1, g2, g3.keeps hk (hu' g g3), fun i hi => hk.cell (g4 i hi) (hu' g g3)⟩
  · refine (((h.kp.mono (S' := vo.toList ++ S) (by simp +contextual)).trans (hk.mono (by simp +contextual)))).strike (fun i hi hlt => ?_)
    rcases List.mem_append.1 hi with hi | hi
    · exact hi
    · rcases hS i hi with e | e
      · omega
      · simp [e]
theorem KT.alloc (h : KT w B x e4 e32 vo slot C base k l tv us wr) (hB2 : B < wr.heap.size) (o : Obj) : KT w B x e4 e32 vo slot C base k l tv us (wr.alloc o) :=
  h.keeps (S := []) ((Keeps.refl _ _).alloc _) (by simp) (by simp) hB2 (by simp) (by simp) (by simp)
/-- the list has grown -/
theorem KT.growL {g cap : Nat} (h : KT w B x e4 e32 vo slot C base k l tv us wr) (hne : e4 ≠ e32) (hB2 : B < wr.heap.size) (hBw : w.heap.size ≤ B) (hown : w2.ownsRow base e4 1 (.slice (some ⟨g, 0, none⟩) (k + 1) cap) (k + 1) (List.replicate k x ++ [x])) (hat : (l.ownBlock = some g ∧ wr.grownBy w2 (some g)) ∨ (g = wr.heap.size ∧ wr.grownBy w2 none)) :
    KT w B x e4 e32 vo slot C base (k + 1) (.slice (some ⟨g, 0, none⟩) (k + 1) cap) tv us w2 := by
  have hown' : w2.ownsRow base e4 1 (.slice (some ⟨g, 0, none⟩) (k + 1) cap) (k + 1) (List.replicate (k + 1) x) := by rw [List.replicate_succ']; exact hown
  have hcell : ∀ i, i < k + 1 → w2.cell? ⟨g, i, none⟩ = some x := fun i hi => by rw [World.ownsRow.cellAt hown' i (by omega)]; simp [hi]
  have hof : Of w2 g e4 := row_of hown' g rfl
  have hlt : ∀ g', tv.ownBlock = some g' → g' ≠ B := fun g' e => by have := (h.ht.lt g' e).1; omega
  rcases hat with ⟨e, hg⟩ | ⟨e, hg⟩
  · have hk : Keeps [g] wr w2 := (Keeps.refl _ _).grown hg (by simp)
    obtain ⟨l1, l2⟩ := h.lo g e
    have htg : ∀ g', tv.ownBlock = some g' → g' ∉ [g] := fun g' e' hin => by
      simp at hin
      subst hin
      exact (row_of h.hl g' e).ne (row_of h.ht g' e') hne rfl
    refine ⟨hown', hk.cell h.c1 (by simp; exact fun e => l2 e.symm), fun j => (hk.frozen (p := ⟨B, j, none⟩) hB2 (by simp; exact fun e => l2 e.symm)).trans (h.fr j), row_keeps h.ht hk htg, fun u hin => ?_, fun g' e' => ?_, ?_, fun j v hj hc => hk.cell (h.cs j v hj hc) (by simp; exact fun e => l2 e.symm)⟩
    · obtain ⟨a, n, cap', e1, hn, hc⟩ := h.hu u hin
      refine ⟨a, n, cap', e1, by omega, ?_⟩
      rcases hc with h0 | ⟨g', ea, g1, g2, g3, g4⟩
      · exact Or.inl h0
      · refine Or.inr ⟨g', ea, g1, g2, ?_, fun i hi => ?_⟩
        · by_cases eg : g' = g
          · rw [eg]; exact hof
          · exact g3.keeps hk (by simpa using eg)
        · by_cases eg : g' = g
          · rw [eg]; exact hcell i (by omega)
          · exact hk.cell (g4 i hi) (by simpa using eg)
    · have : g = g' := by have : some g = some g' := e'; simpa using this
      subst this
      exact ⟨l1, l2⟩
    · refine ((h.kp.mono (S' := vo.toList ++ [g]) (by simp +contextual)).trans (hk.mono (by simp))).strike (fun i hi hi2 => ?_)
      simp only [List.mem_append, List.mem_singleton] at hi
      rcases hi with hi | hi
      · exact hi
      · subst hi
        have := l1 (by omega)
        simp [this]
  · have hk : Keeps [] wr w2 := (Keeps.refl _ _).grown hg (by simp)
    have h' := h.keeps hk (by simp) (by simp) hB2 (by simp) (by simp) (by simp)
    refine ⟨hown', h'.c1, h'.fr, h'.ht, fun u hin => ?_, fun g' e' => ?_, h'.kp, h'.cs⟩
    · obtain ⟨a, n, cap', e1, hn, hc⟩ := h'.hu u hin
      exact ⟨a, n, cap', e1, by omega, hc⟩
    · have : g = g' := by have : some g = some g' := e'; simpa using this
      subst this
      exact ⟨fun hl => by omega, by omega⟩
/-- the list is set down among the others -/
theorem KT.growT {a : Option Addr} {cap : Nat} {tv' : Value} (h : KT w B x e4 e32 vo slot C base k (.slice a k cap) tv us wr) (hne : e4 ≠ e32) (hB2 : B < wr.heap.size) (hBw : w.heap.size ≤ B) (hown : w2.ownsRow (B + 1) e32 1 tv' (us.length + 1) (us ++ [.slice a k cap])) (hg : wr.grownBy w2 tv.ownBlock) :
    KT w B x e4 e32 vo slot C base k (.slice a k cap) tv' (us ++ [.slice a k cap]) (w2.setCell ⟨B, slot, none⟩ tv') := by
  have hk : Keeps tv.ownBlock.toList wr w2 := (Keeps.refl _ _).grown hg (fun j hj => Or.inl (by simp [hj]))
  have htB : ∀ g, tv.ownBlock = some g → B + 1 ≤ g := fun g e => (h.ht.lt g e).1
  have hBn : B ∉ tv.ownBlock.toList := fun hin => by have := htB B (by simpa using hin); omega
  have hap : ∀ g, Of wr g e4 → g ∉ tv.ownBlock.toList := fun g hof hin => hof.ne (row_of h.ht g (by simpa using hin)) hne rfl
  have hk2 : Keeps (B :: tv.ownBlock.toList) wr (w2.setCell ⟨B, slot, none⟩ tv') := (hk.mono (fun i hi => List.mem_cons_of_mem _ hi)).setCell ⟨B, slot, none⟩ (Or.inl (by simp)) _
  have hlB : ∀ g, (Value.slice a k cap).ownBlock = some g → g ∉ B :: tv.ownBlock.toList := fun g e hin => by
    rcases List.mem_cons.1 hin with e' | hin
    · exact (h.lo g e).2 e'
    · exact hap g (row_of h.hl g e) hin
  refine ⟨row_keeps h.hl hk2 hlB, World.cell?_setCell_same _ _ _ (hk.cell h.c1 hBn), fun j => by rw [World.frozen?_setCell]; exact (hk.frozen (p := ⟨B, j, none⟩) hB2 hBn).trans (h.fr j), ?_, fun u hin => ?_, h.lo, ?_, fun j v hj hc => by rw [World.cell?_setCell_other _ _ _ _ (by intro e; injection e; omega)]; exact hk.cell (h.cs j v hj hc) hBn⟩
  · rw [List.length_append]
    exact ownsRow_setCell_other hown (fun e => by have := (hown.lt B e).1; omega) _
  · rcases List.mem_append.1 hin with hin | hin
    · obtain ⟨a', n, cap', e1, hn, hc⟩ := h.hu u hin
      refine ⟨a', n, cap', e1, hn, ?_⟩
      rcases hc with h0 | ⟨g, ea, g1, g2, g3, g4⟩
      · exact Or.inl h0
      · have hgS : g ∉ B :: tv.ownBlock.toList := fun hin => by
          rcases List.mem_cons.1 hin with e' | hin
          · exact g2 e'
          · exact hap g g3 hin
        exact Or.inr ⟨g, ea, g1, g2, g3.keeps hk2 hgS, fun i hi => hk2.cell (g4 i hi) hgS⟩
    · simp at hin
      subst hin
      refine ⟨a, k, cap, rfl, Nat.le_refl _, ?_⟩
      rcases h.hl.2 with ⟨e, h0⟩ | ⟨g, cap', cur, e, hb, hh, rest⟩
      · exact Or.inl h0
      · simp at e
        obtain ⟨rfl, rfl⟩ := e
        have hgS := hlB g rfl
        obtain ⟨l1, l2⟩ := h.lo g rfl
        refine Or.inr ⟨g, rfl, l1, l2, (row_of h.hl g rfl).keeps hk2 hgS, fun i hi => hk2.cell ?_ hgS⟩
        rw [World.ownsRow.cellAt h.hl i (by omega)]
        simp [hi]
  · refine ((h.kp.mono (S' := vo.toList ++ (B :: tv.ownBlock.toList)) (by simp +contextual)).trans (hk2.mono (by simp +contextual))).strike (fun i hi hi2 => ?_)
    simp only [List.mem_append, List.mem_cons] at hi
    rcases hi with hi | hi | hi
    · exact hi
    · omega
    · have := htB i (by simpa using hi); omega
end

theorem infoLists : (Tryz.prog.info? 32).map (fun i => (i.zero, i.size, i.bytes)) = some (some (.slice none 0 0), 1, 24) := by kernel_rfl
theorem infoHoldP : (Tryz.prog.info? 51).map (fun i => (i.zero, i.size, i.bytes)) = some (some (.pointer none), 1, 8) := by kernel_rfl
theorem rowB_same (k : Nat) (b : Bool) : rowB k (fun _ => b) = List.replicate k (.bool b) := by
  unfold rowB
  rw [List.map_const', List.length_range]

/-- the last step of a hold: it is set down among the others -/
theorem WX.hold {Q : Nat → Prop} {w0 w w8 w9 : World} {own : Own} {W K : Nat} {ps : List Pr} {hs : List Nat} {hv hv' x tv : Value} {e4 e32 : TypeId} {vo : Option Nat} {slot base k : Nat} {C : Nat → Option Value} {l : Value} {us : List Value} (hW : WX Q w0 w own W ps hs K) (hvo : ∀ g, vo = some g → own g = (0, 0))
    (q1 : w.cell? ⟨W, 1, none⟩ = some hv) (q2 : w.ownsRow 0 51 1 hv hs.length (hs.map ptr)) (q3 : hv.ownBlock ≠ some W) (q4 : ∀ g, hv.ownBlock = some g → own g = (1, 0))
    (h4 : e4 ≠ 51) (h32 : e32 ≠ 51)
    (hT : KT w w.heap.size x e4 e32 vo slot C base k l tv us w8) (hus : us.length ≤ 9) (hkb : k ≤ 140737488355328) (hB2 : w.heap.size < w8.heap.size) (hown : w9.ownsRow 0 51 1 hv' (hs.length + 1) (hs.map ptr ++ [ptr w.heap.size])) (hg : w8.grownBy w9 hv.ownBlock) (hat : hv'.ownBlock = hv.ownBlock ∨ ∃ g, hv'.ownBlock = some g ∧ w8.heap.size ≤ g)
    (hok : ∀ (own' : Own), own' w.heap.size = (5, hs.length) → (∀ j v, j ≠ slot → C j = some v → (w9.setCell ⟨W, 1, none⟩ hv').cell? ⟨w.heap.size, j, none⟩ = some v) → (w9.setCell ⟨W, 1, none⟩ hv').cell? ⟨w.heap.size, slot, none⟩ = some tv → ListC (w9.setCell ⟨W, 1, none⟩ hv') own' (5, hs.length) tv x → HoldOk (w9.setCell ⟨W, 1, none⟩ hv') own' (5, hs.length) w.heap.size) :
    ∃ own', WX Q w0 (w9.setCell ⟨W, 1, none⟩ hv') own' W ps (hs ++ [w.heap.size]) (K + 1) ∧ (∀ (p : Addr) (u : Value), own p.block ≠ (1, 0) → vo ≠ some p.block → w.cell? p = some u → (w9.setCell ⟨W, 1, none⟩ hv').cell? p = some u) ∧ Onlys own (fun y => y = (0, 0) ∨ y = (1, 0)) w (w9.setCell ⟨W, 1, none⟩ hv') ∧ ∀ b tg, b < w.heap.size → tg ≠ (0, 0) → own b = tg → own' b = tg := by
  obtain ⟨B, hB⟩ : ∃ B, B = w.heap.size := ⟨_, rfl⟩
  rw [← hB] at hT hB2 hown hok ⊢
  obtain ⟨w', hw'⟩ : ∃ w', w' = w9.setCell ⟨W, 1, none⟩ hv' := ⟨_, rfl⟩
  rw [← hw'] at hok ⊢
  have hWl : W < B := by rw [hB]; exact hW.lt
  have hk9 : Keeps hv.ownBlock.toList w8 w9 := (Keeps.refl _ _).grown hg (fun j hj => Or.inl (by simp [hj]))
  have hk' : Keeps (W :: hv.ownBlock.toList) w8 w' := by rw [hw']; exact (hk9.mono (fun i hi => List.mem_cons_of_mem _ hi)).setCell ⟨W, 1, none⟩ (Or.inl (by simp)) _
  have hkw : Keeps (vo.toList ++ W :: hv.ownBlock.toList) w w' := (hT.kp.mono (by simp +contextual)).trans (hk'.mono (by simp +contextual))
  have hvl : ∀ g, hv.ownBlock = some g → g < B := fun g e => by rw [hB]; exact (q2.lt g e).2
  let T : Tag → Prop := fun y => y = (0, 0) ∨ y = (1, 0)
  have hT0 : ∀ y, y ≠ (0, 0) → y ≠ (1, 0) → ¬ T y := fun y h1 h2 h => h.elim h1 h2
  have hon : Onlys own T w w' := ⟨_, hkw, fun b hb => by
    simp only [List.mem_append, Option.mem_toList, List.mem_cons] at hb
    rcases hb with hb | hb | hb
    · exact Or.inl (Or.inl (hvo b hb))
    · exact Or.inl (Or.inr (by rw [hb]; exact hW.ow))
    · exact Or.inl (Or.inr (q4 b hb))⟩
  obtain ⟨own', hown'⟩ : ∃ own' : Own, own' = fun b => if b < B then (if own b = (0, 0) then (5, hs.length) else own b) else if hv'.ownBlock = some b then (1, 0) else (5, hs.length) := ⟨_, rfl⟩
  have o1 : ∀ b tg, b < w.heap.size → tg ≠ (0, 0) → own b = tg → own' b = tg := fun b tg hb hne e => by
    rw [hown']
    simp only
    rw [if_pos (by omega), if_neg (by rw [e]; exact hne), e]
  have o2 : ∀ b, b < B → own b = (0, 0) → own' b = (5, hs.length) := fun b hb e => by
    rw [hown']
    simp only
    rw [if_pos hb, if_pos e]
  have o3 : ∀ b, B ≤ b → hv'.ownBlock ≠ some b → own' b = (5, hs.length) := fun b hb e => by
    rw [hown']
    simp only
    rw [if_neg (by omega), if_neg e]
  obtain ⟨pv, p1, p2, p3, p4⟩ := hW.c0
  have hdiff : (44 : TypeId) ≠ 51 := by decide
  have npv : ∀ g, pv.ownBlock = some g → g ∉ vo.toList ++ W :: hv.ownBlock.toList := fun g e hin => by
    simp only [List.mem_append, Option.mem_toList, List.mem_cons] at hin
    rcases hin with hin | hin | hin
    · have h1 := hvo g hin
      rw [p4 g e] at h1
      simp at h1
    · exact p3 (by rw [e, hin])
    · exact rows_apart p2 q2 hdiff g e hin
  have nW : W ∉ vo.toList := fun hin => by
    have h1 := hvo W (by simpa using hin)
    rw [hW.ow] at h1
    simp at h1
  have nW2 : W ∉ hv.ownBlock.toList := by simpa using q3
  have hc9 : ∀ j v, w.cell? ⟨W, j, none⟩ = some v → w9.cell? ⟨W, j, none⟩ = some v := fun j v hc => hk9.cell (hT.kp.cell hc nW) nW2
  have hW2 := hW.lt
  have hvW : hv'.ownBlock ≠ some W := by
    rcases hat with e | ⟨g, e, hgl⟩
    · rw [e]; exact q3
    · rw [e]; intro e2; simp at e2; omega
  have hof9 : ∀ g, Of w8 g e4 → Of w' g e4 ∨ g = W ∨ hv.ownBlock = some g := fun g h => by
    by_cases e1 : g = W
    · exact Or.inr (Or.inl e1)
    · by_cases e2 : hv.ownBlock = some g
      · exact Or.inr (Or.inr e2)
      · exact Or.inl (h.keeps hk' (by simp [e1, e2]))
  have hownw' : w'.ownsRow 0 51 1 hv' (hs.length + 1) (hs.map ptr ++ [ptr B]) := by rw [hw']; exact ownsRow_setCell_other hown hvW _
  have hv'of : ∀ g, hv'.ownBlock = some g → Of w' g 51 := row_of hownw'
  have hv8of : ∀ g, hv.ownBlock = some g → Of w8 g 51 := fun g e => (row_of q2 g e).keeps hT.kp (fun hin => by
    have h1 := hvo g (by simpa using hin)
    rw [q4 g e] at h1
    simp at h1)
  have hlist : ListC w' own' (5, hs.length) tv x := by
    have htB : ∀ g, tv.ownBlock = some g → B + 1 ≤ g := fun g e => (hT.ht.lt g e).1
    have htS : ∀ g, tv.ownBlock = some g → g ∉ W :: hv.ownBlock.toList := fun g e hin => by
      have h1 := htB g e
      rcases List.mem_cons.1 hin with e' | hin
      · omega
      · have := hvl g (by simpa using hin); omega
    have htw' := row_keeps hT.ht hk' htS
    obtain ⟨a, n, cap, e, hn, hcs⟩ : ∃ a n cap, tv = .slice a n cap ∧ n = us.length ∧ (n = 0 ∨ ∃ g, a = some ⟨g, 0, none⟩) := by
      rcases hT.ht.2 with ⟨e, h0⟩ | ⟨g, cap, cur, e, _⟩
      · exact ⟨none, 0, 0, e, h0.symm, Or.inl rfl⟩
      · exact ⟨_, _, cap, e, rfl, Or.inr ⟨g, rfl⟩⟩
    refine ⟨a, n, cap, e, by omega, ?_⟩
    rcases hcs with h0 | ⟨g, ea⟩
    · exact Or.inl h0
    · subst ea
      subst e
      refine Or.inr ⟨g, rfl, o3 g (by have := htB g rfl; omega) (fun e => (hv'of g e).ne (row_of htw' g rfl) (fun e => h32 e.symm) rfl), fun i hi => ?_⟩
      have hi2 : i < us.length := by omega
      refine ⟨us[i], ?_, ?_⟩
      · rw [hn] at htw'
        rw [World.ownsRow.cellAt htw' i (by omega)]
        simp [hi2]
      · obtain ⟨a', n', cap', e', hn', hc⟩ := hT.hu us[i] (List.getElem_mem hi2)
        refine ⟨a', n', cap', e', by omega, ?_⟩
        rcases hc with h0 | ⟨g', ea', g1, g2, g3, g4⟩
        · exact Or.inl h0
        · have gW : g' ≠ W := by
            intro e
            have h1 := hvo g' (g1 (by omega))
            rw [e, hW.ow] at h1
            simp at h1
          have gv : hv.ownBlock ≠ some g' := fun e => g3.ne (hv8of g' e) h4 rfl
          have gS : g' ∉ W :: hv.ownBlock.toList := by simp [gW, gv]
          have gof := g3.keeps hk' gS
          refine Or.inr ⟨g', ea', ?_, fun i hi => hk'.cell (g4 i hi) gS⟩
          by_cases hl : g' < B
          · exact o2 g' hl (hvo g' (g1 hl))
          · exact o3 g' (by omega) (fun e => (hv'of g' e).ne gof (fun e => h4 e.symm) rfl)
  have oB : own' B = (5, hs.length) := o3 B (Nat.le_refl _) (fun e => by
    rcases hat with e2 | ⟨g, e2, hgl⟩
    · rw [e2] at e; have := hvl B e; omega
    · rw [e2] at e; simp at e; omega)
  refine ⟨own', ⟨low_keeps hW.low hW.mine hon (hT0 _ (by simp) (by simp)), fun b hb => o1 b _ (by have := hW.low.size; omega) (by simp) (hW.mine b hb), o1 W _ hW2 (by simp) hW.ow, fun j => ?_, ⟨pv, ?_, row_keeps p2 hkw npv, p3, fun g hg => o1 g _ (p2.lt g hg).2 (by simp) (p4 g hg)⟩, ⟨hv', ?_, ?_, hvW, fun g hg' => ?_⟩, ?_, fun i y hi hy => ?_, fun j y hy => ?_, Nat.le_succ_of_le hW.kp, by simp; exact hW.kh⟩, fun p u n1 n2 hc => hkw.cell hc (fun hin => ?_), hon, fun b tg hb => o1 b tg (by rw [← hB]; exact hb)⟩
  · rw [hw', World.frozen?_setCell, hk9.frozen (p := ⟨W, j, none⟩) (by show W < _; omega) nW2, hT.kp.frozen (p := ⟨W, j, none⟩) hW2 nW]
    exact hW.fr j
  · rw [hw', World.cell?_setCell_other _ _ _ _ (by simp)]
    exact hc9 0 _ p1
  · rw [hw']
    exact World.cell?_setCell_same _ _ _ (hc9 1 _ q1)
  · have e1 : (hs ++ [B]).length = hs.length + 1 := by simp
    have e2 : (hs ++ [B]).map ptr = hs.map ptr ++ [ptr B] := by simp
    rw [e1, e2]
    exact hownw'
  · rcases hat with e | ⟨g2, e, hgl⟩
    · rw [e] at hg'
      exact o1 g _ (q2.lt g hg').2 (by simp) (q4 g hg')
    · have e3 : g2 = g := by rw [e] at hg'; simpa using hg'
      subst e3
      rw [hown']
      simp only
      rw [if_neg (by omega), if_pos hg']
  · rw [hw', World.cell?_setCell_other _ _ _ _ (by simp)]
    exact hc9 2 _ hW.c2
  · exact ((hW.prs i y hi hy).frame hon (hT0 _ (by simp) (by simp)) (hT0 _ (by simp) (by simp)) (hT0 _ (by simp) (by simp)) (fun b hb e => o1 b _ hb (by simp) e) (fun b hb e => o1 b _ hb (by simp) e) (fun b hb e => o1 b _ hb (by simp) e)).wider (by omega)
  · by_cases hj : j < hs.length
    · rw [List.getElem?_append_left hj] at hy
      exact (hW.hds j y hy).frame hon (hT0 _ (by simp) (by simp)) (fun b hb e => o1 b _ hb (by simp) e)
    · rw [List.getElem?_append_right (by omega)] at hy
      have hj2 : j = hs.length := by
        have : j - hs.length < 1 := by
          false_or_by_contra
          rename_i hc
          rw [List.getElem?_eq_none (by simp; omega)] at hy
          cases hy
        omega
      subst hj2
      simp at hy
      subst hy
      have nB : B ∉ W :: hv.ownBlock.toList := fun hin => by
        rcases List.mem_cons.1 hin with e | hin
        · omega
        · have := hvl B (by simpa using hin); omega
      exact hok own' oB (fun j v hj hc => hk'.cell (hT.cs j v hj hc) nB) (hk'.cell hT.c1 nB) hlist
  · simp only [List.mem_append, Option.mem_toList, List.mem_cons] at hin
    rcases hin with hin | hin | hin
    · exact n2 hin
    · exact n1 (by rw [hin]; exact hW.ow)
    · exact n1 (q4 _ hin)

end Go.Proofs.YtmgjegokkbghlaaGreat

namespace Go.Proofs.YtmgjegokkbghlaaGreat
open Go.RowKit Go.Maps Bdd
set_option linter.unusedVariables false
attribute [local go_sem ↓] Go.wp_at_zero Go.wp_at_succ

/-- the hold's cells but the one that is written -/
def holdC (m : Int) (b : Bool) : Nat → Option Value
  | 0 => some (.slice none 0 0)
  | 1 => some (.slice none 0 0)
  | 2 => some (.slice none 0 0)
  | 3 => some (.int .i64 m)
  | 4 => some (.bool b)
  | _ => none

theorem row_slice {w : World} {base : Nat} {e : TypeId} {size : Nat} {v : Value} {n : Nat} {xs : List Value} (h : w.ownsRow base e size v n xs) (hn : 0 < n) : ∃ g cap, v = .slice (some ⟨g, 0, none⟩) n cap := by
  rcases h.2 with ⟨_, h0⟩ | ⟨g, cap, cur, e, _⟩
  · omega
  · exact ⟨g, cap, e⟩

set_option maxRecDepth 100000 in
set_option maxHeartbeats 4000000 in
theorem keepTruths_any {Q : Nat → Prop} {w0 w : World} {own : Own} {W K : Nat} {ps : List Pr} {hs : List Nat} (hW : WX Q w0 w own W ps hs K) (hK : K ≤ 8796093022208) {v : Value} {m base : Nat} {f : Nat → Bool} (hrow : w.ownsRow base 4 1 v m (rowB m f)) (hbase : base ≤ w.heap.size) (hm : m ≤ 140737488351240) (hvo : ∀ g, v.ownBlock = some g → own g = (0, 0)) :
    Calls Tryz.prog 53 #[ptr W, v] w fun e w' => e = .returned (.tuple #[]) ∧ ∃ own' h, WX Q w0 w' own' W ps (hs ++ [h]) (K + 1) ∧ (∀ (p : Addr) (u : Value), own p.block ≠ (1, 0) → v.ownBlock ≠ some p.block → w.cell? p = some u → w'.cell? p = some u) ∧ Onlys own (fun y => y = (0, 0) ∨ y = (1, 0)) w w' ∧ ∀ b tg, b < w.heap.size → tg ≠ (0, 0) → own b = tg → own' b = tg := by
  obtain ⟨hv, q1, q2, q3, q4⟩ := hW.c1
  obtain ⟨ha, hn, hc, hhn, rfl⟩ : ∃ a n cap, n = hs.length ∧ hv = .slice a n cap := by
    rcases q2.2 with ⟨e, h0⟩ | ⟨g, cap, cur, e, _⟩
    · exact ⟨none, 0, 0, h0.symm, e⟩
    · exact ⟨_, _, cap, rfl, e⟩
  obtain ⟨a, cap, rfl⟩ : ∃ a cap, v = .slice a m cap := by
    rcases hrow.2 with ⟨e, h0⟩ | ⟨g, cap, cur, e, _⟩
    · exact ⟨none, 0, by rw [e, h0]⟩
    · exact ⟨_, cap, e⟩
  obtain ⟨vo, hvoe⟩ : ∃ vo, vo = (Value.slice a m cap).ownBlock := ⟨_, rfl⟩
  rw [← hvoe] at hvo
  have hvl : ∀ g, vo = some g → g < w.heap.size := fun g e => (hrow.lt g (by rw [← hvoe]; exact e)).2
  have hnb : (hn : Int) ≤ 8796093022208 := by have := hW.kh; omega
  have hm' : (m : Int) ≤ 140737488351240 := by omega
  have hWl : W < w.heap.size := hW.lt
  have hWf : w.frozen? ⟨W, 1, none⟩ = false := hW.fr 1
  have hml : 1000 < maxLen := by decide
  have hml2 : 140737488355328 < maxLen := by decide
  obtain ⟨i4, hi4, z40, z41, z42⟩ := info_parts info4
  obtain ⟨iL, hiL, zL0, zL1, zL2⟩ := info_parts infoLists
  obtain ⟨iH, hiH, zH0, zH1, zH2⟩ := info_parts infoHoldP
  obtain ⟨b, hb⟩ : ∃ b : Bool, b = ((hn : Int) % 2 == 0) := ⟨_, rfl⟩
  obtain ⟨Y, hY⟩ : ∃ Y, Y = w.alloc (.cells #[.slice none 0 0, .slice none 0 0, .slice none 0 0, .int .i64 0, .bool b] 92) := ⟨_, rfl⟩
  have hkY : Keeps [] w Y := by rw [hY]; exact (Keeps.refl _ _).alloc _
  have hlY : Y.heap.size = w.heap.size + 1 := by rw [hY]; simp
  have hcY : ∀ j v, holdC 0 b j = some v → Y.cell? ⟨w.heap.size, j, none⟩ = some v := fun j v hj => by
    rw [hY, World.cell?_alloc_at _ _ _ _ rfl]
    match j, hj with
    | 0, hj => exact hj
    | 1, hj => exact hj
    | 2, hj => exact hj
    | 3, hj => exact hj
    | 4, hj => exact hj
  have hcY1 : Y.cell? ⟨w.heap.size, 1, none⟩ = some (.slice none 0 0) := by rw [hY]; simp
  have hfY : ∀ j, Y.frozen? ⟨w.heap.size, j, none⟩ = false := fun j => by rw [hY]; exact World.frozen?_alloc_at _ _ _ _ rfl
  have HRow : Hid (Y.ownsRow base 4 1 (.slice a m cap) m (rowB m f)) := row_keeps hrow hkY (by simp)
  have HW : Hid (WX Q w0 w own W ps hs K) := hW
  have HQ2 : Hid (w.ownsRow 0 51 1 (.slice ha hn hc) hs.length (hs.map ptr)) := q2
  have HVo : Hid (vo = (Value.slice a m cap).ownBlock) := hvoe
  have Hhn : Hid (hn = hs.length) := hhn
  have HVO : Hid (∀ g, vo = some g → own g = (0, 0)) := hvo
  have HQ4 : Hid (∀ g, (Value.slice ha hn hc).ownBlock = some g → own g = (1, 0)) := q4
  have nW : W ∉ vo.toList := fun hin => by
    have h1 := hvo W (by simpa using hin)
    rw [hW.ow] at h1
    simp at h1
  clear hrow hvoe hhn q2 hW hvo q4
  show Calls Tryz.prog 53 #[.pointer (some ⟨W, 0, none⟩), .slice a m cap] w _
  go_enter Tryz.func53, Tryz.ntmps53
  go_wp2_with fail
  rw [← hb, ← hY]
  clear hb hY
  go_loopw [5] (fun x wr => ∃ j : Nat, j ≤ m ∧ x = .int .i64 j ∧ wr.ownsRow base 4 1 (.slice a m cap) m (rowB m (fun i => if i < j then b else f i)) ∧ Keeps vo.toList Y wr) (fun x _ => m - (intOf x).toNat)
  case atStart =>
    refine ⟨0, by omega, rfl, ?_, Keeps.refl _ _⟩
    have e : rowB m (fun i => if i < 0 then b else f i) = rowB m f := rowB_congr (fun i _ => by simp)
    rw [e]
    exact HRow.out
  case round =>
    obtain ⟨j, hj, rfl, hown, hk⟩ := hrel
    have nB : w.heap.size ∉ vo.toList := fun hin => by have := hvl w.heap.size (by simpa using hin); omega
    have hcr : ∀ j v, holdC 0 b j = some v → wr.cell? ⟨w.heap.size, j, none⟩ = some v := fun j v hj => hk.cell (hcY j v hj) nB
    by_cases hlt : j < m
    · have hj0 : (0 : Int) ≤ (j : Int) := by omega
      have hj1 : (j : Int) < (m : Int) := by omega
      obtain ⟨g, ea⟩ : ∃ g, a = some ⟨g, 0, none⟩ := by
        rcases hown.2 with ⟨_, h0⟩ | ⟨g, cap', cur, e, _⟩
        · omega
        · simp at e; exact ⟨g, e.1⟩
      subst ea
      have evo : vo = some g := HVo.out
      have p1 : ∃ u, wr.cell? ⟨g, j, none⟩ = some u := ⟨_, by rw [World.ownsRow.cellAt hown j (by omega), rowB_get _ hlt]⟩
      obtain ⟨u, p1⟩ := p1
      have p2 := World.ownsRow.frozenAt hown j
      have p4 : wr.cell? ⟨w.heap.size, 4, none⟩ = some (.bool b) := hcr 4 _ rfl
      have hs1 := (World.ownsRow.stored hown j (.bool b)).1
      rw [rowB_set (f' := fun i => if i < j + 1 then b else f i) (by simp) (fun i hi => by
        by_cases e : i < j
        · simp [e]; omega
        · have : ¬ i < j + 1 := by omega
          simp [e, this])] at hs1
      have HS : Hid ((wr.setCell ⟨g, j, none⟩ (.bool b)).ownsRow base 4 1 (.slice (some ⟨g, 0, none⟩) m cap) m (rowB m (fun i => if i < j + 1 then b else f i))) := hs1
      clear hs1 hown hcr
      go_wp2_with fail
      go_roundw
      case rel =>
        exact ⟨j + 1, by omega, by go_num, HS.out, hk.setCell _ (Or.inl (by simp [evo])) _⟩
      case measure => simp [intOf]; omega
    · have hj1 : (m : Int) ≤ (j : Int) := by omega
      have hKT0 : KT w w.heap.size (.bool b) 4 32 vo 1 (holdC 0 b) base m (.slice a m cap) (.slice none 0 0) [] wr := by
        refine ⟨?_, hk.cell hcY1 nB, fun j => (hk.frozen (p := ⟨w.heap.size, j, none⟩) (show w.heap.size < Y.heap.size by omega) nB).trans (hfY j), World.ownsRow_nil _ _ _ _, by simp, fun g e => ?_, (hkY.mono (by simp)).trans hk, fun j v _ hj => hcr j v hj⟩
        · have e2 : rowB m (fun i => if i < j then b else f i) = List.replicate m (.bool b) := by
            rw [← rowB_same]
            exact rowB_congr (fun i hi => by rw [if_pos (by omega)])
          rw [← e2]
          exact hown
        · rw [← HVo.out] at e
          exact ⟨fun _ => e, by have := hvl g e; omega⟩
      have hBr : w.heap.size < wr.heap.size := by have := hk.size; omega
      obtain ⟨tv0, htv0⟩ : ∃ tv0, tv0 = Value.slice none 0 0 := ⟨_, rfl⟩
      rw [← htv0] at hKT0
      have x1 := hKT0.c1
      have xf := hKT0.fr 1
      have HKT : Hid (KT w w.heap.size (.bool b) 4 32 vo 1 (holdC 0 b) base m (.slice a m cap) tv0 [] wr) := hKT0
      have hno : ∀ j, tv0.ownBlock = some j → False := fun j hj => by rw [htv0] at hj; cases hj
      clear hown hKT0 hcr htv0
      go_wp2_with (first
        | (at_builtin; refine wpList_append_own_at _ rfl _ _ 89 rfl (w.heap.size + 1) 32 iL (.slice none 0 0) 1 24 Tryz.underlying89 hiL zL0 zL1 zL2 rfl (by decide) _ 0 [] rfl (World.ownsRow.alloc HKT.out.ht _) ⟨wr.heap.size, 0, none⟩ 1 1 [.slice a m cap] rfl rfl (cell_one_new _ _ _) (by simp [Value.oneCell']) (by omega) (by omega) (by simp; omega) ?_; intro tv1 w2 hown1 hgrow1 hnil1 hat1; obtain ⟨g1, cap1, hv1⟩ := row_slice hown1 (by omega); subst hv1; have hA := (HKT.out.alloc hBr (.cells #[.slice a m cap] 32)); have hG := hA.growT (by decide) (by simp; omega) (Nat.le_refl _) hown1 hgrow1; have kk : Keeps [] wr w2 := ((Keeps.refl [] wr).alloc _).grown hgrow1 (fun j hj => (hno j hj).elim); have y1 : w2.cell? ⟨w.heap.size, 1, none⟩ = some tv0 := kk.cell x1 (by simp); have yf : w2.frozen? ⟨w.heap.size, 1, none⟩ = false := (kk.frozen (p := ⟨w.heap.size, 1, none⟩) hBr (by simp)).trans xf; have hs2 : w.heap.size < w2.heap.size := cell_lt (p := ⟨w.heap.size, 1, none⟩) y1)
        | fail)
      have HG : Hid (KT w w.heap.size (.bool b) 4 32 vo 1 (holdC 0 b) base m (.slice a m cap) (.slice (some ⟨g1, 0, none⟩) 1 cap1) ([] ++ [.slice a m cap]) (w2.setCell ⟨w.heap.size, 1, none⟩ (.slice (some ⟨g1, 0, none⟩) 1 cap1))) := hG
      clear hG hA hown1 hgrow1 hnil1 hat1 kk
      go_loopw [1, 6] (fun l x wr => ∃ (j : Nat) (tv : Value) (us : List Value) (la : Option Addr) (lc : Nat), j ≤ 8 ∧ x = .int .i64 j ∧ us.length = j + 1 ∧ l = .slice la (m + j) lc ∧ KT w w.heap.size (.bool b) 4 32 vo 1 (holdC 0 b) base (m + j) (.slice la (m + j) lc) tv us wr ∧ w.heap.size < wr.heap.size) (fun _ x _ => 8 - (intOf x).toNat)
      case atStart => exact ⟨0, _, _, a, cap, by omega, rfl, rfl, rfl, HG.out, by simpa using hs2⟩
      case round =>
        clear HG HKT
        obtain ⟨j, tv, us, la, lc, hj, rfl, hul, rfl, hKT, hBr⟩ := hrel
        by_cases hlt : j < 8
        · have hj0 : (0 : Int) ≤ (j : Int) := by omega
          have hj1 : (j : Int) < 8 := by omega
          have c4 : wr.cell? ⟨w.heap.size, 4, none⟩ = some (.bool b) := hKT.cs 4 _ (by omega) rfl
          have HKT : Hid (KT w w.heap.size (.bool b) 4 32 vo 1 (holdC 0 b) base (m + j) (.slice la (m + j) lc) tv us wr) := hKT
          obtain ⟨un, hun⟩ : ∃ un, un = us.length := ⟨_, rfl⟩
          have HUN : Hid (un = us.length) := hun
          have hunj : un = j + 1 := by omega
          have hsz0 : w.heap.size ≤ wr.heap.size := by omega
          clear hKT hun hul
          go_wp2_with (first
            | (at_builtin; obtain ⟨g2, cap2, w3, hr3, ho3, hat3⟩ := run_append_stays base 32 32 4 i4 (.bool false) 1 1 Tryz.underlying32 hi4 z40 z41 z42 rfl (by decide) (World.ownsRow.alloc HKT.out.hl (.cells #[.bool b] 4)) (a := ⟨wr.heap.size, 0, none⟩) (m := 1) (c := 1) (news := [.bool b]) rfl (cell_one_new _ _ _) (by simp [Value.oneCell']) (by omega) (by omega) (by omega) (by simp; omega); refine wpList_append_run rfl _ _ 32 rfl _ _ _ rfl rfl hr3 ?_; have hG3 := (HKT.out.alloc hBr (.cells #[.bool b] 4)).growL (by decide) (by simp; omega) (Nat.le_refl _) ho3 hat3; have z1 := hG3.c1; have zf := hG3.fr 1; have hs3 : w.heap.size < w3.heap.size := cell_lt (p := ⟨w.heap.size, 1, none⟩) z1; have HG3 : Hid (KT w w.heap.size (.bool b) 4 32 vo 1 (holdC 0 b) base (m + j + 1) (.slice (some ⟨g2, 0, none⟩) (m + j + 1) cap2) tv us w3) := hG3; clear hr3 ho3 hat3 hG3)
            | (at_builtin; refine wpList_append_own_at _ rfl _ _ 89 rfl (w.heap.size + 1) 32 iL (.slice none 0 0) 1 24 Tryz.underlying89 hiL zL0 zL1 zL2 rfl (by decide) _ us.length us rfl (World.ownsRow.alloc HG3.out.ht _) ⟨w3.heap.size, 0, none⟩ 1 1 [.slice (some ⟨g2, 0, none⟩) (m + j + 1) cap2] rfl rfl (cell_one_new _ _ _) (by simp [Value.oneCell']) (by rw [← HUN.out]; omega) (by rw [← HUN.out]; omega) (by simp; omega) ?_; intro tv4 w4 hown4 hgrow4 hnil4 hat4; obtain ⟨g4, cap4, hv4⟩ := row_slice hown4 (by omega); subst hv4; have hG4 := (HG3.out.alloc hs3 (.cells #[.slice (some ⟨g2, 0, none⟩) (m + j + 1) cap2] 32)).growT (by decide) (by simp; omega) (Nat.le_refl _) hown4 hgrow4; have nBt : w.heap.size ∉ tv.ownBlock.toList := (fun hin => by have := (HG3.out.ht.lt w.heap.size (by simpa using hin)).1; omega); have kk : Keeps tv.ownBlock.toList w3 w4 := ((Keeps.refl _ w3).alloc _).grown hgrow4 (fun j hj => Or.inl (Option.mem_toList.2 hj)); have y4 : w4.cell? ⟨w.heap.size, 1, none⟩ = some tv := kk.cell z1 nBt; have yf4 : w4.frozen? ⟨w.heap.size, 1, none⟩ = false := (kk.frozen (p := ⟨w.heap.size, 1, none⟩) hs3 nBt).trans zf; have hs4 : w.heap.size < w4.heap.size := cell_lt (p := ⟨w.heap.size, 1, none⟩) y4; have HG4 : Hid (KT w w.heap.size (.bool b) 4 32 vo 1 (holdC 0 b) base (m + j + 1) (.slice (some ⟨g2, 0, none⟩) (m + j + 1) cap2) (.slice (some ⟨g4, 0, none⟩) (us.length + 1) cap4) (us ++ [.slice (some ⟨g2, 0, none⟩) (m + j + 1) cap2]) (w4.setCell ⟨w.heap.size, 1, none⟩ (.slice (some ⟨g4, 0, none⟩) (us.length + 1) cap4))) := hG4; clear hown4 hgrow4 hnil4 hat4 hG4 kk)
            | fail)
          go_roundw
          case rel => exact ⟨j + 1, _, _, _, cap2, by omega, by go_num, by simp; rw [← HUN.out]; omega, rfl, HG4.out, by simpa using hs4⟩
          case measure => simp [intOf]; omega
        · have hj8 : j = 8 := by omega
          subst hj8
          have HKT : Hid (KT w w.heap.size (.bool b) 4 32 vo 1 (holdC 0 b) base (m + 8) (.slice la (m + 8) lc) tv us wr) := hKT
          have d1 : wr.cell? ⟨W, 1, none⟩ = some (.slice ha hn hc) := hKT.kp.cell q1 nW
          have df : wr.frozen? ⟨W, 1, none⟩ = false := (hKT.kp.frozen (p := ⟨W, 1, none⟩) hWl nW).trans hWf
          have hrow8 : wr.ownsRow 0 51 1 (.slice ha hn hc) hn (hs.map ptr) := by
            have := row_keeps HQ2.out hKT.kp (fun g e hin => by
              have h1 := HVO.out g (by simpa using hin)
              rw [HQ4.out g e] at h1
              simp at h1)
            rw [← Hhn.out] at this
            exact this
          have HR8 : Hid (wr.ownsRow 0 51 1 (.slice ha hn hc) hn (hs.map ptr)) := hrow8
          have HUL : Hid (us.length = 9) := hul
          have nW2 : W ∉ (Value.slice ha hn hc).ownBlock.toList := by simpa using q3
          clear hKT hrow8 hul
          have hn64 : hn ≤ 8796093022208 := by omega
          go_wp2_with (first
            | (at_builtin; refine wpList_append_own_at _ rfl _ _ 27 rfl 0 51 iH (.pointer none) 1 8 Tryz.underlying27 hiH zH0 zH1 zH2 rfl (by decide) _ hn (hs.map ptr) rfl (World.ownsRow.alloc HR8.out _) ⟨wr.heap.size, 0, none⟩ 1 1 [ptr w.heap.size] rfl rfl (cell_one_new _ _ _) (by simp [Value.oneCell', ptr]) (by omega) (by omega) (by simp) ?_; intro hv9 w9 hown9 hgrow9 hnil9 hat9; obtain ⟨g9, cap9, hv9e⟩ := row_slice hown9 (by omega); subst hv9e; have kk9 : Keeps (Value.slice ha hn hc).ownBlock.toList wr w9 := ((Keeps.refl _ wr).alloc _).grown hgrow9 (fun j hj => Or.inl (Option.mem_toList.2 hj)); have e1 : w9.cell? ⟨W, 1, none⟩ = some (.slice ha hn hc) := kk9.cell d1 nW2; have ef : w9.frozen? ⟨W, 1, none⟩ = false := (kk9.frozen (p := ⟨W, 1, none⟩) (show W < wr.heap.size by omega) nW2).trans df; have HOW : Hid (w9.ownsRow 0 51 1 (.slice (some ⟨g9, 0, none⟩) (hn + 1) cap9) (hn + 1) (hs.map ptr ++ [ptr w.heap.size])) := hown9; have HGR : Hid ((wr.alloc (.cells #[ptr w.heap.size] 51)).grownBy w9 (Value.slice ha hn hc).ownBlock) := hgrow9; have HAT : Hid ((Value.slice (some ⟨g9, 0, none⟩) (hn + 1) cap9).ownBlock = (Value.slice ha hn hc).ownBlock ∨ (Value.slice (some ⟨g9, 0, none⟩) (hn + 1) cap9).ownBlock = some (wr.alloc (.cells #[ptr w.heap.size] 51)).heap.size) := hat9; clear hown9 hgrow9 hnil9 hat9 kk9)
            | fail)
          go_end0
          refine ⟨rfl, ?_⟩
          have hA8 := HKT.out.alloc hBr (.cells #[ptr w.heap.size] 51)
          have hO := HOW.out
          have hQ2 := HQ2.out
          have hAT := HAT.out
          obtain ⟨V9, hV9⟩ : ∃ V9, V9 = Value.slice (some ⟨g9, 0, none⟩) (hn + 1) cap9 := ⟨_, rfl⟩
          rw [← hV9] at hO hAT ⊢
          rw [Hhn.out] at hO
          obtain ⟨own', hfin⟩ := HW.out.hold HVO.out q1 hQ2 q3 HQ4.out (by decide) (by decide) hA8 (by rw [HUL.out]; exact Nat.le_refl _) (by omega) (by simp; omega) hO HGR.out (hAT.imp id (fun e => ⟨_, e, Nat.le_refl _⟩)) (fun own' ho hcs hc1 hl => ⟨ho, .slice none 0 0, tv, 0, b, hcs 0 _ (by omega) rfl, hc1, hcs 2 _ (by omega) rfl, hcs 3 _ (by omega) rfl, hcs 4 _ (by omega) rfl, ⟨none, 0, 0, rfl, by omega, Or.inl rfl⟩, hl⟩)
          exact ⟨own', _, hfin.1, fun p u n1 n2 hc => hfin.2.1 p u n1 (by rw [HVo.out]; exact n2) hc, hfin.2.2.1, hfin.2.2.2⟩

end Go.Proofs.YtmgjegokkbghlaaGreat

namespace Go.Proofs.YtmgjegokkbghlaaGreat
open Go.RowKit Go.Maps Bdd
set_option linter.unusedVariables false
attribute [local go_sem ↓] Go.wp_at_zero Go.wp_at_succ

/-- a call, as the script has it -/
def opV (k m a b c : Int) (l v : Value) : Value := .agg #[.int .i64 k, .int .i64 m, .int .i64 a, .int .i64 b, .int .i64 c, l, v]
def opC (k m a b c : Int) (l v : Value) : Array Value := #[.int .i64 k, .int .i64 m, .int .i64 a, .int .i64 b, .int .i64 c, l, v]

/-- what is nobody's stays as it was -/
def Free (own : Own) (w w' : World) : Prop := ∀ (p : Addr) (u : Value), own p.block = (0, 3) → w.cell? p = some u → w'.cell? p = some u
theorem Free.keeps {own : Own} {w w' : World} (hk : Keeps [] w w') : Free own w w' := fun p u _ hc => hk.cell hc (by simp)

theorem infoPair : (Tryz.prog.info? 44).map (fun i => (i.zero, i.size, i.bytes)) = some (some (.agg #[.pointer none, .pointer none, .pointer none]), 3, 24) := by kernel_rfl

/-- one pair more is set down among the others -/
theorem WX.pair {w0 w w3 w4 : World} {own own3 : Own} {W K : Nat} {ps : List Pr} {hs : List Nat} {pv pv' : Value} {x : Pr} (hW : WAt w0 w own W ps hs K)
    (q1 : w.cell? ⟨W, 0, none⟩ = some pv) (q2 : w.ownsRow 0 44 3 pv ps.length (flatP ps)) (q3 : pv.ownBlock ≠ some W) (q4 : ∀ g, pv.ownBlock = some g → own g = (1, 0))
    (hk : Keeps [] w w3) (ho3 : ∀ b, b < w.heap.size → own3 b = own b) (hx : PairOk w3 own3 ps.length x (K + 1))
    (hown : w4.ownsRow 0 44 3 pv' (ps.length + 1) (flatP ps ++ [ptr x.p, ptr x.q, ptr x.r])) (hg : w3.grownBy w4 pv.ownBlock) (hat : pv'.ownBlock = pv.ownBlock ∨ ∃ g, pv'.ownBlock = some g ∧ w3.heap.size ≤ g) :
    ∃ own', WAt w0 (w4.setCell ⟨W, 0, none⟩ pv') own' W (ps ++ [x]) hs (K + 1) ∧ Free own w (w4.setCell ⟨W, 0, none⟩ pv') := by
  obtain ⟨w', hw'⟩ : ∃ w', w' = w4.setCell ⟨W, 0, none⟩ pv' := ⟨_, rfl⟩
  rw [← hw']
  have hW3 : WAt w0 w3 own3 W ps hs K := hW.keeps hk (fun b tg hb _ e => by rw [ho3 b hb]; exact e)
  have hk4 : Keeps pv.ownBlock.toList w3 w4 := (Keeps.refl _ _).grown hg (fun j hj => Or.inl (by simp [hj]))
  have hk' : Keeps (W :: pv.ownBlock.toList) w3 w' := by rw [hw']; exact (hk4.mono (fun i hi => List.mem_cons_of_mem _ hi)).setCell ⟨W, 0, none⟩ (Or.inl (by simp)) _
  have hs3 := hk.size
  have q4' : ∀ g, pv.ownBlock = some g → own3 g = (1, 0) := fun g e => by rw [ho3 g (q2.lt g e).2]; exact q4 g e
  have hon : Onlys own3 (fun y => y = (1, 0)) w3 w' := ⟨_, hk', fun b hb => by
    rcases List.mem_cons.1 hb with e | hb
    · exact Or.inl (by rw [e]; exact hW3.ow)
    · exact Or.inl (q4' b (by simpa using hb))⟩
  obtain ⟨own', hown'⟩ : ∃ own' : Own, own' = newOwn own3 w3 (1, 0) := ⟨_, rfl⟩
  have o1 : ∀ b tg, b < w3.heap.size → own3 b = tg → own' b = tg := fun b tg hb e => by rw [hown', newOwn_old hb]; exact e
  obtain ⟨hv, h1, h2, h3, h4⟩ := hW3.c1
  have hdiff : (51 : TypeId) ≠ 44 := by decide
  have q2' : w3.ownsRow 0 44 3 pv ps.length (flatP ps) := row_keeps q2 hk (by simp)
  have nhv : ∀ g, hv.ownBlock = some g → g ∉ W :: pv.ownBlock.toList := fun g e hin => by
    rcases List.mem_cons.1 hin with e2 | hin
    · exact h3 (by rw [e, e2])
    · exact rows_apart h2 q2' hdiff g e (by simpa using hin)
  have nW2 : W ∉ pv.ownBlock.toList := by simpa using q3
  have hWl := hW3.lt
  have hvW : pv'.ownBlock ≠ some W := by
    rcases hat with e | ⟨g, e, hgl⟩
    · rw [e]; exact q3
    · rw [e]; intro e2; simp at e2; omega
  have hc4 : ∀ j v, w3.cell? ⟨W, j, none⟩ = some v → w4.cell? ⟨W, j, none⟩ = some v := fun j v hc => hk4.cell hc nW2
  refine ⟨own', ⟨low_keeps hW3.low hW3.mine hon (by simp), fun b hb => o1 b _ (by have := hW3.low.size; omega) (hW3.mine b hb), o1 W _ hWl hW3.ow, fun j => ?_, ⟨pv', ?_, ?_, hvW, fun g hg' => ?_⟩, ⟨hv, ?_, row_keeps h2 hk' nhv, h3, fun g e => o1 g _ (h2.lt g e).2 (h4 g e)⟩, ?_, fun i y _ hy => ?_, fun j y hy => ?_, by simp; exact hW.kp, Nat.le_succ_of_le hW.kh⟩, fun p u h0 hc => hon.cell (hk.cell hc (by simp)) (fun e => by rw [ho3 p.block (cell_lt hc), h0] at e; simp at e)⟩
  · rw [hw', World.frozen?_setCell, hk4.frozen (p := ⟨W, j, none⟩) hWl nW2]
    exact hW3.fr j
  · rw [hw']
    exact World.cell?_setCell_same _ _ _ (hc4 0 _ (hk.cell q1 (by simp)))
  · rw [hw', flatP_snoc, List.length_append]
    exact ownsRow_setCell_other hown hvW _
  · rcases hat with e | ⟨g2, e, hgl⟩
    · rw [e] at hg'
      exact o1 g _ (by have := (q2.lt g hg').2; omega) (q4' g hg')
    · have e3 : g2 = g := by rw [e] at hg'; simpa using hg'
      subst e3
      rw [hown']
      exact newOwn_new hgl
  · rw [hw', World.cell?_setCell_other _ _ _ _ (by simp)]
    exact hc4 1 _ h1
  · rw [hw', World.cell?_setCell_other _ _ _ _ (by simp)]
    exact hc4 2 _ hW3.c2
  · by_cases hi : i < ps.length
    · rw [List.getElem?_append_left hi] at hy
      exact ((hW3.prs i y trivial hy).wider (Nat.le_succ K)).frame hon (by simp) (by simp) (by simp) (fun b hb e => o1 b _ hb e) (fun b hb e => o1 b _ hb e) (fun b hb e => o1 b _ hb e)
    · rw [List.getElem?_append_right (by omega)] at hy
      have hj2 : i = ps.length := by
        have : i - ps.length < 1 := by
          false_or_by_contra
          rename_i hc
          rw [List.getElem?_eq_none (by simp; omega)] at hy
          cases hy
        omega
      subst hj2
      simp at hy
      subst hy
      exact hx.frame hon (by simp) (by simp) (by simp) (fun b hb e => o1 b _ hb e) (fun b hb e => o1 b _ hb e) (fun b hb e => o1 b _ hb e)
  · exact (hW3.hds j y hy).frame hon (by simp) (fun b hb e => o1 b _ hb e)

set_option maxRecDepth 100000 in
set_option maxHeartbeats 1000000 in
theorem begin_bad {w0 w : World} {own : Own} {W K : Nat} {ps : List Pr} {hs : List Nat} (hW : WAt w0 w own W ps hs K) {k m a b c : Int} {l v : Value} (h : a < 1 ∨ 8 < a ∨ b < 0 ∨ 2000 < b) :
    Calls Tryz.prog 8 #[ptr W, opV k m a b c l v] w fun e w' => e = .returned (.bool true) ∧ Keeps [] w w' := by
  have H1 : Hid (∀ w : World, Calls Tryz.prog 11 #[.int .i64 a, .int .i64 b] w fun e w' => e = .returned (.tuple #[.pointer none, .int .i64 1]) ∧ Keeps [] w w') := fun w => new_bad h
  have H2 : Hid (∀ w : World, Calls Tryz.prog 12 #[.int .i64 a, .int .i64 b] w fun e w' => e = .returned (.tuple #[.pointer none, .int .i64 1]) ∧ Keeps [] w w') := fun w => rnew_bad h
  clear h hW
  obtain ⟨wb, hwb⟩ : ∃ wb, wb = w.alloc (.cells (opC k m a b c l v) 34) := ⟨_, rfl⟩
  have hkb : Keeps [] w wb := by rw [hwb]; exact (Keeps.refl _ _).alloc _
  have b2 : wb.cell? ⟨w.heap.size, 2, none⟩ = some (.int .i64 a) := by rw [hwb]; simp [opC]
  have b3 : wb.cell? ⟨w.heap.size, 3, none⟩ = some (.int .i64 b) := by rw [hwb]; simp [opC]
  show Calls Tryz.prog 8 #[.pointer (some ⟨W, 0, none⟩), .agg #[.int .i64 k, .int .i64 m, .int .i64 a, .int .i64 b, .int .i64 c, l, v]] w _
  unfold opC at hwb
  go_enter Tryz.func8, Tryz.ntmps8
  go_wp2_with fail
  rw [← hwb]
  clear hwb
  refine (H1.out _).mono ?_
  rintro e w1 ⟨rfl, hk1⟩
  have d2 := hk1.cell b2 (by simp)
  have d3 := hk1.cell b3 (by simp)
  go_wp2_with fail
  refine (H1.out _).mono ?_
  rintro e w2 ⟨rfl, hk2⟩
  have f2 := hk2.cell d2 (by simp)
  have f3 := hk2.cell d3 (by simp)
  go_wp2_with fail
  refine (H2.out _).mono ?_
  rintro e w3 ⟨rfl, hk3⟩
  go_wp2_with fail
  go_ret
  exact ⟨rfl, ((hkb.trans hk1).trans hk2).trans hk3⟩

set_option maxRecDepth 100000 in
set_option maxHeartbeats 1000000 in
theorem begin_good {w0 w : World} {own : Own} {W K : Nat} {ps : List Pr} {hs : List Nat} (hW : WAt w0 w own W ps hs K) (hK : K ≤ 4000000000000) {k m b c : Int} {n : Nat} {l v : Value} (h1 : 1 ≤ n) (h8 : n ≤ 8) (hb0 : 0 ≤ b) (hb1 : b ≤ 2000) :
    Calls Tryz.prog 8 #[ptr W, opV k m n b c l v] w fun e w' => e = .returned (.bool true) ∧ ∃ own' x, x.A = Abs.new n b ∧ WAt w0 w' own' W (ps ++ [x]) hs (K + 1) ∧ Free own w w' := by
  have H1 : Hid (∀ (w : World) (own : Own) (tg : Tag), Calls Tryz.prog 11 #[.int .i64 n, .int .i64 b] w fun e w' => ∃ s, e = .returned (.tuple #[.pointer (some ⟨s, 0, none⟩), .int .i64 0]) ∧ PS w' (newOwn own w tg) tg s (Abs.new n b) 1 ∧ Keeps [] w w') := fun w own tg => ps_new h1 h8 hb0 hb1 own tg
  have H2 : Hid (∀ (w : World) (own : Own) (tg : Tag), Calls Tryz.prog 12 #[.int .i64 n, .int .i64 b] w fun e w' => ∃ r, e = .returned (.tuple #[.pointer (some ⟨r, 0, none⟩), .int .i64 0]) ∧ RW w' (newOwn own w tg) tg r (Abs.new n b) ∧ Keeps [] w w') := fun w own tg => rs_new h1 h8 hb0 hb1 own tg
  have HA : AbsOk (Abs.new n b) := AbsOk.fresh h1 h8 b
  obtain ⟨pv, q1, q2, q3, q4⟩ := hW.c0
  obtain ⟨ia, hia, z0, z1, z2⟩ := info_parts infoPair
  have hml : 5000000000000 < maxLen := by decide
  have hpK : ps.length ≤ 4000000000000 := Nat.le_trans hW.kp hK
  have hWl := hW.lt
  have hWf := hW.fr 0
  have HW : Hid (WAt w0 w own W ps hs K) := hW
  obtain ⟨wb, hwb⟩ : ∃ wb, wb = w.alloc (.cells (opC k m n b c l v) 34) := ⟨_, rfl⟩
  have hkb : Keeps [] w wb := by rw [hwb]; exact (Keeps.refl _ _).alloc _
  have b2 : wb.cell? ⟨w.heap.size, 2, none⟩ = some (.int .i64 n) := by rw [hwb]; simp [opC]
  have b3 : wb.cell? ⟨w.heap.size, 3, none⟩ = some (.int .i64 b) := by rw [hwb]; simp [opC]
  clear hW h1 h8 hb0 hb1
  show Calls Tryz.prog 8 #[.pointer (some ⟨W, 0, none⟩), .agg #[.int .i64 k, .int .i64 m, .int .i64 n, .int .i64 b, .int .i64 c, l, v]] w _
  unfold opC at hwb
  go_enter Tryz.func8, Tryz.ntmps8
  go_wp2_with fail
  rw [← hwb]
  clear hwb
  refine (H1.out _ own (2, ps.length)).mono ?_
  rintro e w1 ⟨s1, rfl, p1, hk1⟩
  have P1 : Hid (PS w1 (newOwn own wb (2, ps.length)) (2, ps.length) s1 (Abs.new n b) 1) := p1
  have d2 := hk1.cell b2 (by simp)
  have d3 := hk1.cell b3 (by simp)
  clear p1
  go_wp2_with fail
  refine (H1.out _ (newOwn own wb (2, ps.length)) (3, ps.length)).mono ?_
  rintro e w2 ⟨s2, rfl, p2, hk2⟩
  have P2 : Hid (PS w2 (newOwn (newOwn own wb (2, ps.length)) w1 (3, ps.length)) (3, ps.length) s2 (Abs.new n b) 1) := p2
  have f2 := hk2.cell d2 (by simp)
  have f3 := hk2.cell d3 (by simp)
  clear p2
  go_wp2_with fail
  refine (H2.out _ (newOwn (newOwn own wb (2, ps.length)) w1 (3, ps.length)) (4, ps.length)).mono ?_
  rintro e w3 ⟨r3, rfl, p3, hk3⟩
  have P3 : Hid (RW w3 (newOwn (newOwn (newOwn own wb (2, ps.length)) w1 (3, ps.length)) w2 (4, ps.length)) (4, ps.length) r3 (Abs.new n b)) := p3
  have hk : Keeps [] w w3 := ((hkb.trans hk1).trans hk2).trans hk3
  have g0 := hk.cell q1 (by simp)
  have gf : w3.frozen? ⟨W, 0, none⟩ = false := (hk.frozen (p := ⟨W, 0, none⟩) hWl (by simp)).trans hWf
  have HR : Hid (w3.ownsRow 0 44 3 pv ps.length (flatP ps)) := row_keeps q2 hk (by simp)
  have nW2 : W ∉ pv.ownBlock.toList := by simpa using q3
  have hW3 : W < w3.heap.size := by have := hk.size; omega
  obtain ⟨pa, pn, pc, rfl⟩ : ∃ a n c, pv = .slice a n c := by
    rcases q2.2 with ⟨e, _⟩ | ⟨g, cap, cur, e, _⟩
    · exact ⟨_, _, _, e⟩
    · exact ⟨_, _, _, e⟩
  have Q2 : Hid (w.ownsRow 0 44 3 (.slice pa pn pc) ps.length (flatP ps)) := q2
  obtain ⟨pl, hpl⟩ : ∃ pl, pl = ps.length := ⟨_, rfl⟩
  clear p3 q2
  go_wp2_with (first
    | (at_builtin; refine wpList_append_own_at _ rfl _ _ 26 rfl 0 44 ia _ 3 24 Tryz.underlying26 hia z0 z1 z2 rfl (by decide) _ ps.length (flatP ps) rfl (World.ownsRow.alloc HR.out _) ⟨w3.heap.size, 0, none⟩ 1 1 [ptr s1, ptr s2, ptr r3] rfl rfl (cells_laid _ _ _) (by simp [Value.oneCell', ptr]) (by omega) (by omega) (by simp) ?_; intro v4 w4 hown4 hgrow4 hnil4 hat4; obtain ⟨g4, cap4, hv4⟩ := row_slice hown4 (by omega); subst hv4; have kk4 : Keeps (Value.slice pa pn pc).ownBlock.toList w3 w4 := ((Keeps.refl _ w3).alloc _).grown hgrow4 (fun j hj => Or.inl (Option.mem_toList.2 hj)); have e1 := kk4.cell g0 nW2; have ef : w4.frozen? ⟨W, 0, none⟩ = false := (kk4.frozen (p := ⟨W, 0, none⟩) hW3 nW2).trans gf; have HG : Hid (w4.ownsRow 0 44 3 (.slice (some ⟨g4, 0, none⟩) (ps.length + 1) cap4) (ps.length + 1) (flatP ps ++ [ptr s1, ptr s2, ptr r3]) ∧ (w3.alloc (.cells #[ptr s1, ptr s2, ptr r3] 44)).grownBy w4 (Value.slice pa pn pc).ownBlock ∧ ((Value.slice (some ⟨g4, 0, none⟩) (ps.length + 1) cap4).ownBlock = (Value.slice pa pn pc).ownBlock ∨ (Value.slice (some ⟨g4, 0, none⟩) (ps.length + 1) cap4).ownBlock = some (w3.alloc (.cells #[ptr s1, ptr s2, ptr r3] 44)).heap.size)) := ⟨hown4, hgrow4, hat4⟩; clear hown4 hgrow4 hnil4 hat4 kk4)
    | fail)
  go_ret
  refine ⟨rfl, ?_⟩
  obtain ⟨k4, k5, k6⟩ := HG.out
  have hka : Keeps [] w3 (w3.alloc (.cells #[ptr s1, ptr s2, ptr r3] 44)) := (Keeps.refl _ _).alloc _
  obtain ⟨own3, hown3⟩ : ∃ own3, own3 = newOwn (newOwn (newOwn own wb (2, ps.length)) w1 (3, ps.length)) w2 (4, ps.length) := ⟨_, rfl⟩
  have hs1 := hk1.size
  have hs2 := hk2.size
  have hs0 := hkb.size
  have hx : PairOk (w3.alloc (.cells #[ptr s1, ptr s2, ptr r3] 44)) own3 ps.length ⟨s1, s2, r3, Abs.new n b⟩ (K + 1) := by
    refine ⟨HA, by simp [Abs.new]; omega, ((P1.out.keeps ((hk2.trans hk3).trans hka) (fun b hb e => ?_)).wider (by omega)), ((P2.out.keeps (hk3.trans hka) (fun b hb e => ?_)).wider (by omega)), P3.out.keeps HA hka (fun b hb e => by rw [hown3]; exact e)⟩
    · rw [hown3]
      unfold newOwn at e ⊢
      by_cases hb0 : b < wb.heap.size
      · rw [if_pos hb0] at e
        rw [if_pos (by omega), if_pos (by omega), if_pos hb0]
        exact e
      · rw [if_pos (by omega), if_pos hb, if_neg hb0]
    · rw [hown3]
      unfold newOwn at e ⊢
      rw [if_pos hb]
      exact e
  obtain ⟨own', hfin⟩ := WX.pair (x := ⟨s1, s2, r3, Abs.new n b⟩) HW.out q1 Q2.out q3 q4 (hk.trans hka) (fun b hb => by rw [hown3]; unfold newOwn; rw [if_pos (by omega), if_pos (by omega), if_pos (by omega)]) hx k4 k5 (k6.imp id (fun e => ⟨_, e, Nat.le_refl _⟩))
  exact ⟨own', _, rfl, hfin⟩

end Go.Proofs.YtmgjegokkbghlaaGreat

namespace Go.Proofs.YtmgjegokkbghlaaGreat
open Go.RowKit Go.Maps Bdd
set_option linter.unusedVariables false
attribute [local go_sem ↓] Go.wp_at_zero Go.wp_at_succ

theorem PS.owned {w : World} {own own' : Own} {tg : Tag} {s : Nat} {A : Abs} {lb : Int} (h : PS w own tg s A lb) (ho : ∀ b, own b = tg → own' b = tg) : PS w own' tg s A lb := h.keeps (Keeps.refl _ _) (fun b _ e => ho b e)
theorem RW.owned {w : World} {own own' : Own} {tg : Tag} {r : Nat} {A : Abs} (h : RW w own tg r A) (hA : AbsOk A) (ho : ∀ b, own b = tg → own' b = tg) : RW w own' tg r A := h.keeps hA (Keeps.refl _ _) (fun b _ e => ho b e)
theorem newOwn_from {own : Own} {w wb : World} {tg : Tag} (hs : w.heap.size ≤ wb.heap.size) : ∀ b, newOwn own wb tg b = tg → newOwn own w tg b = tg := fun b e => by
  unfold newOwn at e ⊢
  by_cases h : b < w.heap.size
  · rw [if_pos (by omega)] at e
    rw [if_pos h]; exact e
  · rw [if_neg h]
theorem Onlys.from {own : Own} {T : Tag → Prop} {w wb w' : World} (hk : Keeps [] w wb) (h : Onlys own T wb w') : Onlys own T w w' := by
  obtain ⟨S, h1, h2⟩ := h
  exact ⟨S, (hk.mono (by simp)).trans h1, fun b hb => (h2 b hb).imp id (fun e => Nat.le_trans hk.size e)⟩
theorem MadeP.from {w wb w' : World} {own : Own} {tg : Tag} {s : Nat} {A : Abs} {lb : Int} {m : Int ⊕ Fun} {e : Ending} (hk : Keeps [] w wb) (h : MadeP wb own tg s A lb m e w') : MadeP w own tg s A lb m e w' :=
  ⟨h.1, h.2.1, h.2.2.1.owned (newOwn_from hk.size), h.2.2.2.from hk⟩
theorem MadeR.from {w wb w' : World} {own : Own} {tg : Tag} {r : Nat} {A : Abs} {m : Int ⊕ Fun} {e : Ending} (hA : AbsOk A) (hk : Keeps [] w wb) (h : MadeR wb own tg r A m e w') : MadeR w own tg r A m e w' :=
  ⟨h.1, h.2.1.owned (hA.made m) (newOwn_from hk.size), h.2.2.from hk⟩

section
variable {w : World} {own : Own} {tg : Tag} {s W : Nat} {A : Abs} {lb : Int}
set_option maxRecDepth 100000 in
set_option maxHeartbeats 1000000 in
theorem makes2 (hA : AbsOk A) (h : PS w own tg s A lb) (hg : A.la + 1 ≤ 4611686018427387904) (hlb : lb + 100000 ≤ 4611686018427387904) {m a b c : Int} {l v : Value} (ha : Fits a) (hb : Fits b) (hc : Fits c) :
    Calls Tryz.prog 14 #[ptr W, ptr s, opV 2 m a b c l v] w (MadeP w own tg s A lb (mk A 2 a b c)) := by
  obtain ⟨wb, hwb⟩ : ∃ wb, wb = w.alloc (.cells (opC 2 m a b c l v) 34) := ⟨_, rfl⟩
  have hkb : Keeps [] w wb := by rw [hwb]; exact (Keeps.refl _ _).alloc _
  have H : Hid (Calls Tryz.prog 22 #[.pointer (some ⟨s, 0, none⟩), .bool (a.tmod 2 != 0)] wb (MadeP wb own tg s A lb (mk A 2 a b c))) := ps_constant hA (h.keeps hkb (own' := own) (fun _ _ e => e)) hg a b c
  clear hA h hg hlb
  unfold Fits at ha hb hc
  show Calls Tryz.prog 14 #[.pointer (some ⟨W, 0, none⟩), .pointer (some ⟨s, 0, none⟩), .agg #[.int .i64 2, .int .i64 m, .int .i64 a, .int .i64 b, .int .i64 c, l, v]] w _
  unfold opC at hwb
  go_enter Tryz.func14, Tryz.ntmps14
  go_wp2_with fail
  rw [← hwb]
  clear hwb
  refine H.out.mono ?_
  intro e w' hh
  have hm : Hid (MadeP w own tg s A lb (mk A 2 a b c) e w') := hh.from hkb
  have he := hh.1
  clear hh
  obtain ⟨x, hx⟩ : ∃ x, x = (madeOf A (mk A 2 a b c)).1 := ⟨_, rfl⟩
  obtain ⟨y, hy⟩ : ∃ y, y = (madeOf A (mk A 2 a b c)).2.1 := ⟨_, rfl⟩
  rw [← hx, ← hy] at he
  clear hx hy
  subst he
  go_wp2_with fail
  go_ret2
  exact hm.out

set_option maxRecDepth 100000 in
set_option maxHeartbeats 1000000 in
theorem makes3 (hA : AbsOk A) (h : PS w own tg s A lb) (hg : A.la + 1 ≤ 4611686018427387904) (hlb : lb + 100000 ≤ 4611686018427387904) {m a b c : Int} {l v : Value} (ha : Fits a) (hb : Fits b) (hc : Fits c) :
    Calls Tryz.prog 14 #[ptr W, ptr s, opV 3 m a b c l v] w (MadeP w own tg s A lb (mk A 3 a b c)) := by
  obtain ⟨wb, hwb⟩ : ∃ wb, wb = w.alloc (.cells (opC 3 m a b c l v) 34) := ⟨_, rfl⟩
  have hkb : Keeps [] w wb := by rw [hwb]; exact (Keeps.refl _ _).alloc _
  have H : Hid (Calls Tryz.prog 23 #[.pointer (some ⟨s, 0, none⟩), .int .i64 a] wb (MadeP wb own tg s A lb (mk A 3 a b c))) := ps_variable hA (h.keeps hkb (own' := own) (fun _ _ e => e)) hg hlb a b c
  clear hA h hg hlb
  unfold Fits at ha hb hc
  show Calls Tryz.prog 14 #[.pointer (some ⟨W, 0, none⟩), .pointer (some ⟨s, 0, none⟩), .agg #[.int .i64 3, .int .i64 m, .int .i64 a, .int .i64 b, .int .i64 c, l, v]] w _
  unfold opC at hwb
  go_enter Tryz.func14, Tryz.ntmps14
  go_wp2_with fail
  rw [← hwb]
  clear hwb
  refine H.out.mono ?_
  intro e w' hh
  have hm : Hid (MadeP w own tg s A lb (mk A 3 a b c) e w') := hh.from hkb
  have he := hh.1
  clear hh
  obtain ⟨x, hx⟩ : ∃ x, x = (madeOf A (mk A 3 a b c)).1 := ⟨_, rfl⟩
  obtain ⟨y, hy⟩ : ∃ y, y = (madeOf A (mk A 3 a b c)).2.1 := ⟨_, rfl⟩
  rw [← hx, ← hy] at he
  clear hx hy
  subst he
  go_wp2_with fail
  go_ret2
  exact hm.out

set_option maxRecDepth 100000 in
set_option maxHeartbeats 1000000 in
theorem makes4 (hA : AbsOk A) (h : PS w own tg s A lb) (hg : A.la + 1 ≤ 4611686018427387904) (hlb : lb + 100000 ≤ 4611686018427387904) {m a b c : Int} {l v : Value} (ha : Fits a) (hb : Fits b) (hc : Fits c) :
    Calls Tryz.prog 14 #[ptr W, ptr s, opV 4 m a b c l v] w (MadeP w own tg s A lb (mk A 4 a b c)) := by
  obtain ⟨wb, hwb⟩ : ∃ wb, wb = w.alloc (.cells (opC 4 m a b c l v) 34) := ⟨_, rfl⟩
  have hkb : Keeps [] w wb := by rw [hwb]; exact (Keeps.refl _ _).alloc _
  have H : Hid (Calls Tryz.prog 24 #[.pointer (some ⟨s, 0, none⟩), .int .i64 a] wb (MadeP wb own tg s A lb (mk A 4 a b c))) := ps_not hA (h.keeps hkb (own' := own) (fun _ _ e => e)) hg hlb ha b c
  clear hA h hg hlb
  unfold Fits at ha hb hc
  show Calls Tryz.prog 14 #[.pointer (some ⟨W, 0, none⟩), .pointer (some ⟨s, 0, none⟩), .agg #[.int .i64 4, .int .i64 m, .int .i64 a, .int .i64 b, .int .i64 c, l, v]] w _
  unfold opC at hwb
  go_enter Tryz.func14, Tryz.ntmps14
  go_wp2_with fail
  rw [← hwb]
  clear hwb
  refine H.out.mono ?_
  intro e w' hh
  have hm : Hid (MadeP w own tg s A lb (mk A 4 a b c) e w') := hh.from hkb
  have he := hh.1
  clear hh
  obtain ⟨x, hx⟩ : ∃ x, x = (madeOf A (mk A 4 a b c)).1 := ⟨_, rfl⟩
  obtain ⟨y, hy⟩ : ∃ y, y = (madeOf A (mk A 4 a b c)).2.1 := ⟨_, rfl⟩
  rw [← hx, ← hy] at he
  clear hx hy
  subst he
  go_wp2_with fail
  go_ret2
  exact hm.out

set_option maxRecDepth 100000 in
set_option maxHeartbeats 1000000 in
theorem makes5 (hA : AbsOk A) (h : PS w own tg s A lb) (hg : A.la + 1 ≤ 4611686018427387904) (hlb : lb + 100000 ≤ 4611686018427387904) {m a b c : Int} {l v : Value} (ha : Fits a) (hb : Fits b) (hc : Fits c) :
    Calls Tryz.prog 14 #[ptr W, ptr s, opV 5 m a b c l v] w (MadeP w own tg s A lb (mk A 5 a b c)) := by
  obtain ⟨wb, hwb⟩ : ∃ wb, wb = w.alloc (.cells (opC 5 m a b c l v) 34) := ⟨_, rfl⟩
  have hkb : Keeps [] w wb := by rw [hwb]; exact (Keeps.refl _ _).alloc _
  have H : Hid (Calls Tryz.prog 25 #[.pointer (some ⟨s, 0, none⟩), .int .i64 a, .int .i64 b, .int .i64 c] wb (MadeP wb own tg s A lb (mk A 5 a b c))) := ps_apply hA (h.keeps hkb (own' := own) (fun _ _ e => e)) hg hlb a hb hc
  clear hA h hg hlb
  unfold Fits at ha hb hc
  show Calls Tryz.prog 14 #[.pointer (some ⟨W, 0, none⟩), .pointer (some ⟨s, 0, none⟩), .agg #[.int .i64 5, .int .i64 m, .int .i64 a, .int .i64 b, .int .i64 c, l, v]] w _
  unfold opC at hwb
  go_enter Tryz.func14, Tryz.ntmps14
  go_wp2_with fail
  rw [← hwb]
  clear hwb
  refine H.out.mono ?_
  intro e w' hh
  have hm : Hid (MadeP w own tg s A lb (mk A 5 a b c) e w') := hh.from hkb
  have he := hh.1
  clear hh
  obtain ⟨x, hx⟩ : ∃ x, x = (madeOf A (mk A 5 a b c)).1 := ⟨_, rfl⟩
  obtain ⟨y, hy⟩ : ∃ y, y = (madeOf A (mk A 5 a b c)).2.1 := ⟨_, rfl⟩
  rw [← hx, ← hy] at he
  clear hx hy
  subst he
  go_wp2_with fail
  go_ret2
  exact hm.out

set_option maxRecDepth 100000 in
set_option maxHeartbeats 1000000 in
theorem makes6 (hA : AbsOk A) (h : PS w own tg s A lb) (hg : A.la + 1 ≤ 4611686018427387904) (hlb : lb + 100000 ≤ 4611686018427387904) {m a b c : Int} {l v : Value} (ha : Fits a) (hb : Fits b) (hc : Fits c) :
    Calls Tryz.prog 14 #[ptr W, ptr s, opV 6 m a b c l v] w (MadeP w own tg s A lb (mk A 6 a b c)) := by
  obtain ⟨wb, hwb⟩ : ∃ wb, wb = w.alloc (.cells (opC 6 m a b c l v) 34) := ⟨_, rfl⟩
  have hkb : Keeps [] w wb := by rw [hwb]; exact (Keeps.refl _ _).alloc _
  have H : Hid (Calls Tryz.prog 26 #[.pointer (some ⟨s, 0, none⟩), .int .i64 a, .int .i64 b, .int .i64 c] wb (MadeP wb own tg s A lb (mk A 6 a b c))) := ps_choose hA (h.keeps hkb (own' := own) (fun _ _ e => e)) hg hlb ha hb hc
  clear hA h hg hlb
  unfold Fits at ha hb hc
  show Calls Tryz.prog 14 #[.pointer (some ⟨W, 0, none⟩), .pointer (some ⟨s, 0, none⟩), .agg #[.int .i64 6, .int .i64 m, .int .i64 a, .int .i64 b, .int .i64 c, l, v]] w _
  unfold opC at hwb
  go_enter Tryz.func14, Tryz.ntmps14
  go_wp2_with fail
  rw [← hwb]
  clear hwb
  refine H.out.mono ?_
  intro e w' hh
  have hm : Hid (MadeP w own tg s A lb (mk A 6 a b c) e w') := hh.from hkb
  have he := hh.1
  clear hh
  obtain ⟨x, hx⟩ : ∃ x, x = (madeOf A (mk A 6 a b c)).1 := ⟨_, rfl⟩
  obtain ⟨y, hy⟩ : ∃ y, y = (madeOf A (mk A 6 a b c)).2.1 := ⟨_, rfl⟩
  rw [← hx, ← hy] at he
  clear hx hy
  subst he
  go_wp2_with fail
  go_ret2
  exact hm.out

set_option maxRecDepth 100000 in
set_option maxHeartbeats 1000000 in
theorem made2 (hA : AbsOk A) (h : RW w own tg s A) (hla : A.la < 4611686018427387904) {m a b c : Int} {l v : Value} (ha : Fits a) (hc : Known1 A (mk A 2 a b c)) :
    Calls Tryz.prog 15 #[ptr s, opV 2 m a b c l v] w (MadeR w own tg s A (mk A 2 a b c)) := by
  obtain ⟨wb, hwb⟩ : ∃ wb, wb = w.alloc (.cells (opC 2 m a b c l v) 34) := ⟨_, rfl⟩
  have hkb : Keeps [] w wb := by rw [hwb]; exact (Keeps.refl _ _).alloc _
  have H : Hid (Calls Tryz.prog 32 #[.pointer (some ⟨s, 0, none⟩), .bool (a.tmod 2 != 0)] wb (MadeR wb own tg s A (mk A 2 a b c))) := rs_constant hA (h.keeps hA hkb (own' := own) (fun _ _ e => e)) hla a b c hc
  have HA : Hid (AbsOk A) := hA
  clear hA h hla hc
  unfold Fits at ha
  show Calls Tryz.prog 15 #[.pointer (some ⟨s, 0, none⟩), .agg #[.int .i64 2, .int .i64 m, .int .i64 a, .int .i64 b, .int .i64 c, l, v]] w _
  unfold opC at hwb
  go_enter Tryz.func15, Tryz.ntmps15
  go_wp2_with fail
  rw [← hwb]
  clear hwb
  refine H.out.mono ?_
  intro e w' hh
  have hm : Hid (MadeR w own tg s A (mk A 2 a b c) e w') := hh.from HA.out hkb
  have he := hh.1
  clear hh
  obtain ⟨x, hx⟩ : ∃ x, x = (madeOf A (mk A 2 a b c)).1 := ⟨_, rfl⟩
  obtain ⟨y, hy⟩ : ∃ y, y = (madeOf A (mk A 2 a b c)).2.1 := ⟨_, rfl⟩
  rw [← hx, ← hy] at he
  clear hx hy
  subst he
  go_wp2_with fail
  go_ret2
  exact hm.out

set_option maxRecDepth 100000 in
set_option maxHeartbeats 1000000 in
theorem made3 (hA : AbsOk A) (h : RW w own tg s A) (hla : A.la < 4611686018427387904) {m a b c : Int} {l v : Value} (ha : Fits a) (hc : Known1 A (mk A 3 a b c)) :
    Calls Tryz.prog 15 #[ptr s, opV 3 m a b c l v] w (MadeR w own tg s A (mk A 3 a b c)) := by
  obtain ⟨wb, hwb⟩ : ∃ wb, wb = w.alloc (.cells (opC 3 m a b c l v) 34) := ⟨_, rfl⟩
  have hkb : Keeps [] w wb := by rw [hwb]; exact (Keeps.refl _ _).alloc _
  have H : Hid (Calls Tryz.prog 33 #[.pointer (some ⟨s, 0, none⟩), .int .i64 a] wb (MadeR wb own tg s A (mk A 3 a b c))) := rs_variable hA (h.keeps hA hkb (own' := own) (fun _ _ e => e)) hla a b c hc
  have HA : Hid (AbsOk A) := hA
  clear hA h hla hc
  unfold Fits at ha
  show Calls Tryz.prog 15 #[.pointer (some ⟨s, 0, none⟩), .agg #[.int .i64 3, .int .i64 m, .int .i64 a, .int .i64 b, .int .i64 c, l, v]] w _
  unfold opC at hwb
  go_enter Tryz.func15, Tryz.ntmps15
  go_wp2_with fail
  rw [← hwb]
  clear hwb
  refine H.out.mono ?_
  intro e w' hh
  have hm : Hid (MadeR w own tg s A (mk A 3 a b c) e w') := hh.from HA.out hkb
  have he := hh.1
  clear hh
  obtain ⟨x, hx⟩ : ∃ x, x = (madeOf A (mk A 3 a b c)).1 := ⟨_, rfl⟩
  obtain ⟨y, hy⟩ : ∃ y, y = (madeOf A (mk A 3 a b c)).2.1 := ⟨_, rfl⟩
  rw [← hx, ← hy] at he
  clear hx hy
  subst he
  go_wp2_with fail
  go_ret2
  exact hm.out

set_option maxRecDepth 100000 in
set_option maxHeartbeats 1000000 in
theorem made4 (hA : AbsOk A) (h : RW w own tg s A) (hla : A.la < 4611686018427387904) {m a b c : Int} {l v : Value} (ha : Fits a) (hc : Known1 A (mk A 4 a b c)) :
    Calls Tryz.prog 15 #[ptr s, opV 4 m a b c l v] w (MadeR w own tg s A (mk A 4 a b c)) := by
  obtain ⟨wb, hwb⟩ : ∃ wb, wb = w.alloc (.cells (opC 4 m a b c l v) 34) := ⟨_, rfl⟩
  have hkb : Keeps [] w wb := by rw [hwb]; exact (Keeps.refl _ _).alloc _
  have H : Hid (Calls Tryz.prog 34 #[.pointer (some ⟨s, 0, none⟩), .int .i64 a] wb (MadeR wb own tg s A (mk A 4 a b c))) := rs_not hA (h.keeps hA hkb (own' := own) (fun _ _ e => e)) hla a b c hc
  have HA : Hid (AbsOk A) := hA
  clear hA h hla hc
  unfold Fits at ha
  show Calls Tryz.prog 15 #[.pointer (some ⟨s, 0, none⟩), .agg #[.int .i64 4, .int .i64 m, .int .i64 a, .int .i64 b, .int .i64 c, l, v]] w _
  unfold opC at hwb
  go_enter Tryz.func15, Tryz.ntmps15
  go_wp2_with fail
  rw [← hwb]
  clear hwb
  refine H.out.mono ?_
  intro e w' hh
  have hm : Hid (MadeR w own tg s A (mk A 4 a b c) e w') := hh.from HA.out hkb
  have he := hh.1
  clear hh
  obtain ⟨x, hx⟩ : ∃ x, x = (madeOf A (mk A 4 a b c)).1 := ⟨_, rfl⟩
  obtain ⟨y, hy⟩ : ∃ y, y = (madeOf A (mk A 4 a b c)).2.1 := ⟨_, rfl⟩
  rw [← hx, ← hy] at he
  clear hx hy
  subst he
  go_wp2_with fail
  go_ret2
  exact hm.out

set_option maxRecDepth 100000 in
set_option maxHeartbeats 1000000 in
theorem made5 (hA : AbsOk A) (h : RW w own tg s A) (hla : A.la < 4611686018427387904) {m a b c : Int} {l v : Value} (ha : Fits a) (hc : Known1 A (mk A 5 a b c)) :
    Calls Tryz.prog 15 #[ptr s, opV 5 m a b c l v] w (MadeR w own tg s A (mk A 5 a b c)) := by
  obtain ⟨wb, hwb⟩ : ∃ wb, wb = w.alloc (.cells (opC 5 m a b c l v) 34) := ⟨_, rfl⟩
  have hkb : Keeps [] w wb := by rw [hwb]; exact (Keeps.refl _ _).alloc _
  have H : Hid (Calls Tryz.prog 35 #[.pointer (some ⟨s, 0, none⟩), .int .i64 a, .int .i64 b, .int .i64 c] wb (MadeR wb own tg s A (mk A 5 a b c))) := rs_apply hA (h.keeps hA hkb (own' := own) (fun _ _ e => e)) hla a b c hc
  have HA : Hid (AbsOk A) := hA
  clear hA h hla hc
  unfold Fits at ha
  show Calls Tryz.prog 15 #[.pointer (some ⟨s, 0, none⟩), .agg #[.int .i64 5, .int .i64 m, .int .i64 a, .int .i64 b, .int .i64 c, l, v]] w _
  unfold opC at hwb
  go_enter Tryz.func15, Tryz.ntmps15
  go_wp2_with fail
  rw [← hwb]
  clear hwb
  refine H.out.mono ?_
  intro e w' hh
  have hm : Hid (MadeR w own tg s A (mk A 5 a b c) e w') := hh.from HA.out hkb
  have he := hh.1
  clear hh
  obtain ⟨x, hx⟩ : ∃ x, x = (madeOf A (mk A 5 a b c)).1 := ⟨_, rfl⟩
  obtain ⟨y, hy⟩ : ∃ y, y = (madeOf A (mk A 5 a b c)).2.1 := ⟨_, rfl⟩
  rw [← hx, ← hy] at he
  clear hx hy
  subst he
  go_wp2_with fail
  go_ret2
  exact hm.out

set_option maxRecDepth 100000 in
set_option maxHeartbeats 1000000 in
theorem made6 (hA : AbsOk A) (h : RW w own tg s A) (hla : A.la < 4611686018427387904) {m a b c : Int} {l v : Value} (ha : Fits a) (hc : Known1 A (mk A 6 a b c)) :
    Calls Tryz.prog 15 #[ptr s, opV 6 m a b c l v] w (MadeR w own tg s A (mk A 6 a b c)) := by
  obtain ⟨wb, hwb⟩ : ∃ wb, wb = w.alloc (.cells (opC 6 m a b c l v) 34) := ⟨_, rfl⟩
  have hkb : Keeps [] w wb := by rw [hwb]; exact (Keeps.refl _ _).alloc _
  have H : Hid (Calls Tryz.prog 36 #[.pointer (some ⟨s, 0, none⟩), .int .i64 a, .int .i64 b, .int .i64 c] wb (MadeR wb own tg s A (mk A 6 a b c))) := rs_choose hA (h.keeps hA hkb (own' := own) (fun _ _ e => e)) hla a b c hc
  have HA : Hid (AbsOk A) := hA
  clear hA h hla hc
  unfold Fits at ha
  show Calls Tryz.prog 15 #[.pointer (some ⟨s, 0, none⟩), .agg #[.int .i64 6, .int .i64 m, .int .i64 a, .int .i64 b, .int .i64 c, l, v]] w _
  unfold opC at hwb
  go_enter Tryz.func15, Tryz.ntmps15
  go_wp2_with fail
  rw [← hwb]
  clear hwb
  refine H.out.mono ?_
  intro e w' hh
  have hm : Hid (MadeR w own tg s A (mk A 6 a b c) e w') := hh.from HA.out hkb
  have he := hh.1
  clear hh
  obtain ⟨x, hx⟩ : ∃ x, x = (madeOf A (mk A 6 a b c)).1 := ⟨_, rfl⟩
  obtain ⟨y, hy⟩ : ∃ y, y = (madeOf A (mk A 6 a b c)).2.1 := ⟨_, rfl⟩
  rw [← hx, ← hy] at he
  clear hx hy
  subst he
  go_wp2_with fail
  go_ret2
  exact hm.out

theorem makes_any (hA : AbsOk A) (h : PS w own tg s A lb) (hg : A.la + 1 ≤ 4611686018427387904) (hlb : lb + 100000 ≤ 4611686018427387904) {k m a b c : Int} {l v : Value} (hk : 2 ≤ k ∧ k ≤ 6) (ha : Fits a) (hb : Fits b) (hc : Fits c) :
    Calls Tryz.prog 14 #[ptr W, ptr s, opV k m a b c l v] w (MadeP w own tg s A lb (mk A k a b c)) := by
  obtain rfl | rfl | rfl | rfl | rfl : k = 2 ∨ k = 3 ∨ k = 4 ∨ k = 5 ∨ k = 6 := by omega
  · exact makes2 hA h hg hlb ha hb hc
  · exact makes3 hA h hg hlb ha hb hc
  · exact makes4 hA h hg hlb ha hb hc
  · exact makes5 hA h hg hlb ha hb hc
  · exact makes6 hA h hg hlb ha hb hc
theorem made_any (hA : AbsOk A) (h : RW w own tg s A) (hla : A.la < 4611686018427387904) {k m a b c : Int} {l v : Value} (hk : 2 ≤ k ∧ k ≤ 6) (ha : Fits a) (hc : Known1 A (mk A k a b c)) :
    Calls Tryz.prog 15 #[ptr s, opV k m a b c l v] w (MadeR w own tg s A (mk A k a b c)) := by
  obtain rfl | rfl | rfl | rfl | rfl : k = 2 ∨ k = 3 ∨ k = 4 ∨ k = 5 ∨ k = 6 := by omega
  · exact made2 hA h hla ha hc
  · exact made3 hA h hla ha hc
  · exact made4 hA h hla ha hc
  · exact made5 hA h hla ha hc
  · exact made6 hA h hla ha hc
end

end Go.Proofs.YtmgjegokkbghlaaGreat

namespace Go.Proofs.YtmgjegokkbghlaaGreat
open Go.RowKit Go.Maps Bdd
set_option linter.unusedVariables false
attribute [local go_sem ↓] Go.wp_at_zero Go.wp_at_succ

/-- the pair and the call, laid down -/
def boxed (w : World) (p q r : Nat) (k m a b c : Int) (l v : Value) : World := (w.alloc (.cells #[ptr p, ptr q, ptr r] 44)).alloc (.cells (opC k m a b c l v) 34)
theorem boxed_keeps (w : World) (p q r : Nat) (k m a b c : Int) (l v : Value) : Keeps [] w (boxed w p q r k m a b c l v) := ((Keeps.refl _ _).alloc _).alloc _
theorem boxed_pair (w : World) (p q r : Nat) (k m a b c : Int) (l v : Value) : ∀ j u, #[ptr p, ptr q, ptr r][j]? = some u → (boxed w p q r k m a b c l v).cell? ⟨w.heap.size, j, none⟩ = some u := fun j u h => ((Keeps.refl [] _).alloc _).cell (cell_new w _ _ rfl h) (by simp)
theorem boxed_op (w : World) (p q r : Nat) (k m a b c : Int) (l v : Value) : ∀ j u, (opC k m a b c l v)[j]? = some u → (boxed w p q r k m a b c l v).cell? ⟨w.heap.size + 1, j, none⟩ = some u := fun j u h => cell_new _ _ _ (by simp) h

section
variable {w : World} {own own2 : Own} {i : Nat} {x : Pr} {K W : Nat}
set_option maxRecDepth 100000 in
set_option maxHeartbeats 1000000 in
theorem asks8 (h : PairOk w own i x K) {m a b c : Int} {l v : Value} (ha : Fits a) (hb : Fits b) :
    Calls Tryz.prog 19 #[ptr W, .agg #[ptr x.p, ptr x.q, ptr x.r], opV 8 m a b c l v] w fun e w' => e = .returned (.bool true) ∧ Keeps [] w w' := by
  obtain ⟨hA, _, hp, hq, hr⟩ := h
  obtain ⟨wb, hwb⟩ : ∃ wb, wb = boxed w x.p x.q x.r 8 m a b c l v := ⟨_, rfl⟩
  have hkb : Keeps [] w wb := by rw [hwb]; exact boxed_keeps ..
  have x0 : wb.cell? ⟨w.heap.size, 0, none⟩ = some (.pointer (some ⟨x.p, 0, none⟩)) := by rw [hwb]; exact boxed_pair _ _ _ _ _ _ _ _ _ _ _ 0 _ rfl
  have x2 : wb.cell? ⟨w.heap.size, 2, none⟩ = some (.pointer (some ⟨x.r, 0, none⟩)) := by rw [hwb]; exact boxed_pair _ _ _ _ _ _ _ _ _ _ _ 2 _ rfl
  have o0 : wb.cell? ⟨w.heap.size + 1, 0, none⟩ = some (.int .i64 8) := by rw [hwb]; exact boxed_op _ _ _ _ _ _ _ _ _ _ _ 0 _ rfl
  have o2 : wb.cell? ⟨w.heap.size + 1, 2, none⟩ = some (.int .i64 a) := by rw [hwb]; exact boxed_op _ _ _ _ _ _ _ _ _ _ _ 2 _ rfl
  have o3 : wb.cell? ⟨w.heap.size + 1, 3, none⟩ = some (.int .i64 b) := by rw [hwb]; exact boxed_op _ _ _ _ _ _ _ _ _ _ _ 3 _ rfl
  have hPb := hp.keeps hkb (own' := own) (fun _ _ e => e)
  have HP : Hid (Calls Tryz.prog 48 #[.pointer (some ⟨x.p, 0, none⟩), .int .i64 a, .int .i64 b] wb fun e w' => e = .returned (.tuple #[.bool (sameOf x.A a b).1, .int .i64 (sameOf x.A a b).2]) ∧ Keeps [] wb w') := ps_same hPb ha hb
  have HR : Hid (∀ w', Keeps [] wb w' → Calls Tryz.prog 49 #[.pointer (some ⟨x.r, 0, none⟩), .int .i64 a, .int .i64 b] w' fun e w2 => e = .returned (.tuple #[.bool (sameOf x.A a b).1, .int .i64 (sameOf x.A a b).2]) ∧ w' = w2) := fun w' hk => rs_same hPb hA (hr.keeps hA (hkb.trans hk) (own' := own) (fun _ _ e => e)) a b
  obtain ⟨s1, hs1⟩ : ∃ s1, s1 = (sameOf x.A a b).1 := ⟨_, rfl⟩
  obtain ⟨s2, hs2⟩ : ∃ s2, s2 = (sameOf x.A a b).2 := ⟨_, rfl⟩
  rw [← hs1, ← hs2] at HP HR
  clear hs1 hs2
  have e1 : (s1 == s1) = true := by simp
  have e2 : (s2 == s2) = true := by simp
  obtain ⟨p, hp'⟩ : ∃ p, p = x.p := ⟨_, rfl⟩
  obtain ⟨q, hq'⟩ : ∃ q, q = x.q := ⟨_, rfl⟩
  obtain ⟨r, hr'⟩ : ∃ r, r = x.r := ⟨_, rfl⟩
  rw [← hp'] at HP x0 hwb ⊢
  rw [← hr'] at HR x2 hwb ⊢
  rw [← hq'] at hwb ⊢
  clear hA hp hq hr hPb hp' hq' hr'
  unfold Fits at ha hb
  show Calls Tryz.prog 19 #[.pointer (some ⟨W, 0, none⟩), .agg #[.pointer (some ⟨p, 0, none⟩), .pointer (some ⟨q, 0, none⟩), .pointer (some ⟨r, 0, none⟩)], .agg #[.int .i64 8, .int .i64 m, .int .i64 a, .int .i64 b, .int .i64 c, l, v]] w _
  unfold boxed opC ptr at hwb
  go_enter Tryz.func19, Tryz.ntmps19
  go_wp2_with fail
  rw [← hwb]
  clear hwb
  refine HP.out.mono ?_
  rintro e w1 ⟨rfl, hk1⟩
  have y2 := hk1.cell x2 (by simp)
  have z2 := hk1.cell o2 (by simp)
  have z3 := hk1.cell o3 (by simp)
  go_wp2_with fail
  refine (HR.out _ hk1).mono ?_
  rintro e w2 ⟨rfl, rfl⟩
  go_wp2_with fail
  go_ret
  exact ⟨rfl, hkb.trans hk1⟩

set_option maxRecDepth 100000 in
set_option maxHeartbeats 1000000 in
theorem asks10 (h : PairOk w own i x K) {m a b c : Int} {l v : Value} (ha : Fits a) (hb : Fits b) :
    Calls Tryz.prog 19 #[ptr W, .agg #[ptr x.p, ptr x.q, ptr x.r], opV 10 m a b c l v] w fun e w' => e = .returned (.bool true) ∧ Keeps [] w w' := by
  obtain ⟨hA, _, hp, hq, hr⟩ := h
  obtain ⟨wb, hwb⟩ : ∃ wb, wb = boxed w x.p x.q x.r 10 m a b c l v := ⟨_, rfl⟩
  have hkb : Keeps [] w wb := by rw [hwb]; exact boxed_keeps ..
  have x0 : wb.cell? ⟨w.heap.size, 0, none⟩ = some (.pointer (some ⟨x.p, 0, none⟩)) := by rw [hwb]; exact boxed_pair _ _ _ _ _ _ _ _ _ _ _ 0 _ rfl
  have x2 : wb.cell? ⟨w.heap.size, 2, none⟩ = some (.pointer (some ⟨x.r, 0, none⟩)) := by rw [hwb]; exact boxed_pair _ _ _ _ _ _ _ _ _ _ _ 2 _ rfl
  have o0 : wb.cell? ⟨w.heap.size + 1, 0, none⟩ = some (.int .i64 10) := by rw [hwb]; exact boxed_op _ _ _ _ _ _ _ _ _ _ _ 0 _ rfl
  have o2 : wb.cell? ⟨w.heap.size + 1, 2, none⟩ = some (.int .i64 a) := by rw [hwb]; exact boxed_op _ _ _ _ _ _ _ _ _ _ _ 2 _ rfl
  have o3 : wb.cell? ⟨w.heap.size + 1, 3, none⟩ = some (.int .i64 b) := by rw [hwb]; exact boxed_op _ _ _ _ _ _ _ _ _ _ _ 3 _ rfl
  have hPb := hp.keeps hkb (own' := own) (fun _ _ e => e)
  have HP : Hid (Calls Tryz.prog 55 #[.pointer (some ⟨x.p, 0, none⟩), .int .i64 a] wb fun e w' => e = .returned (.tuple #[.int .i64 (countOf x.A a).1, .int .i64 (countOf x.A a).2]) ∧ Keeps [] wb w') := ps_count hPb ha
  have HR : Hid (∀ w', Keeps [] wb w' → Calls Tryz.prog 56 #[.pointer (some ⟨x.r, 0, none⟩), .int .i64 a] w' fun e w2 => e = .returned (.tuple #[.int .i64 (countOf x.A a).1, .int .i64 (countOf x.A a).2]) ∧ w' = w2) := fun w' hk => rs_count hPb hA (hr.keeps hA (hkb.trans hk) (own' := own) (fun _ _ e => e)) a
  obtain ⟨s1, hs1⟩ : ∃ s1, s1 = (countOf x.A a).1 := ⟨_, rfl⟩
  obtain ⟨s2, hs2⟩ : ∃ s2, s2 = (countOf x.A a).2 := ⟨_, rfl⟩
  rw [← hs1, ← hs2] at HP HR
  clear hs1 hs2
  have e1 : (s1 == s1) = true := by simp
  have e2 : (s2 == s2) = true := by simp
  obtain ⟨p, hp'⟩ : ∃ p, p = x.p := ⟨_, rfl⟩
  obtain ⟨q, hq'⟩ : ∃ q, q = x.q := ⟨_, rfl⟩
  obtain ⟨r, hr'⟩ : ∃ r, r = x.r := ⟨_, rfl⟩
  rw [← hp'] at HP x0 hwb ⊢
  rw [← hr'] at HR x2 hwb ⊢
  rw [← hq'] at hwb ⊢
  clear hA hp hq hr hPb hp' hq' hr'
  unfold Fits at ha hb
  show Calls Tryz.prog 19 #[.pointer (some ⟨W, 0, none⟩), .agg #[.pointer (some ⟨p, 0, none⟩), .pointer (some ⟨q, 0, none⟩), .pointer (some ⟨r, 0, none⟩)], .agg #[.int .i64 10, .int .i64 m, .int .i64 a, .int .i64 b, .int .i64 c, l, v]] w _
  unfold boxed opC ptr at hwb
  go_enter Tryz.func19, Tryz.ntmps19
  go_wp2_with fail
  rw [← hwb]
  clear hwb
  refine HP.out.mono ?_
  rintro e w1 ⟨rfl, hk1⟩
  have y2 := hk1.cell x2 (by simp)
  have z2 := hk1.cell o2 (by simp)
  have z3 := hk1.cell o3 (by simp)
  go_wp2_with fail
  refine (HR.out _ hk1).mono ?_
  rintro e w2 ⟨rfl, rfl⟩
  go_wp2_with fail
  go_ret
  exact ⟨rfl, hkb.trans hk1⟩

set_option maxRecDepth 100000 in
set_option maxHeartbeats 1000000 in
theorem asks11 (h : PairOk w own i x K) {m a b c : Int} {l v : Value} (ha : Fits a) (hb : Fits b) :
    Calls Tryz.prog 19 #[ptr W, .agg #[ptr x.p, ptr x.q, ptr x.r], opV 11 m a b c l v] w fun e w' => e = .returned (.bool true) ∧ Keeps [] w w' := by
  obtain ⟨hA, _, hp, hq, hr⟩ := h
  obtain ⟨wb, hwb⟩ : ∃ wb, wb = boxed w x.p x.q x.r 11 m a b c l v := ⟨_, rfl⟩
  have hkb : Keeps [] w wb := by rw [hwb]; exact boxed_keeps ..
  have x0 : wb.cell? ⟨w.heap.size, 0, none⟩ = some (.pointer (some ⟨x.p, 0, none⟩)) := by rw [hwb]; exact boxed_pair _ _ _ _ _ _ _ _ _ _ _ 0 _ rfl
  have x2 : wb.cell? ⟨w.heap.size, 2, none⟩ = some (.pointer (some ⟨x.r, 0, none⟩)) := by rw [hwb]; exact boxed_pair _ _ _ _ _ _ _ _ _ _ _ 2 _ rfl
  have o0 : wb.cell? ⟨w.heap.size + 1, 0, none⟩ = some (.int .i64 11) := by rw [hwb]; exact boxed_op _ _ _ _ _ _ _ _ _ _ _ 0 _ rfl
  have o2 : wb.cell? ⟨w.heap.size + 1, 2, none⟩ = some (.int .i64 a) := by rw [hwb]; exact boxed_op _ _ _ _ _ _ _ _ _ _ _ 2 _ rfl
  have o3 : wb.cell? ⟨w.heap.size + 1, 3, none⟩ = some (.int .i64 b) := by rw [hwb]; exact boxed_op _ _ _ _ _ _ _ _ _ _ _ 3 _ rfl
  have hPb := hp.keeps hkb (own' := own) (fun _ _ e => e)
  have HP : Hid (Calls Tryz.prog 57 #[.pointer (some ⟨x.p, 0, none⟩)] wb fun e w' => e = .returned (.int .i64 (cntOf x.A.n x.A.o (Vof x.A.fs) : Int)) ∧ Keeps [] wb w') := ps_nodes hPb
  have HR : Hid (∀ w', Keeps [] wb w' → Calls Tryz.prog 58 #[.pointer (some ⟨x.r, 0, none⟩)] w' fun e w2 => e = .returned (.int .i64 (cntOf x.A.n x.A.o (Vof x.A.fs) : Int)) ∧ Keeps [] w' w2) := fun w' hk => rs_nodes hPb hA (hr.keeps hA (hkb.trans hk) (own' := own) (fun _ _ e => e))
  obtain ⟨s1, hs1⟩ : ∃ s1 : Int, s1 = (cntOf x.A.n x.A.o (Vof x.A.fs) : Int) := ⟨_, rfl⟩
  rw [← hs1] at HP HR
  clear hs1
  have e1 : (s1 == s1) = true := by simp
  obtain ⟨p, hp'⟩ : ∃ p, p = x.p := ⟨_, rfl⟩
  obtain ⟨q, hq'⟩ : ∃ q, q = x.q := ⟨_, rfl⟩
  obtain ⟨r, hr'⟩ : ∃ r, r = x.r := ⟨_, rfl⟩
  rw [← hp'] at HP x0 hwb ⊢
  rw [← hr'] at HR x2 hwb ⊢
  rw [← hq'] at hwb ⊢
  clear hA hp hq hr hPb hp' hq' hr'
  unfold Fits at ha hb
  show Calls Tryz.prog 19 #[.pointer (some ⟨W, 0, none⟩), .agg #[.pointer (some ⟨p, 0, none⟩), .pointer (some ⟨q, 0, none⟩), .pointer (some ⟨r, 0, none⟩)], .agg #[.int .i64 11, .int .i64 m, .int .i64 a, .int .i64 b, .int .i64 c, l, v]] w _
  unfold boxed opC ptr at hwb
  go_enter Tryz.func19, Tryz.ntmps19
  go_wp2_with fail
  rw [← hwb]
  clear hwb
  refine HP.out.mono ?_
  rintro e w1 ⟨rfl, hk1⟩
  have y2 := hk1.cell x2 (by simp)
  have z2 := hk1.cell o2 (by simp)
  have z3 := hk1.cell o3 (by simp)
  go_wp2_with fail
  refine (HR.out _ hk1).mono ?_
  rintro e w2 ⟨rfl, hk2⟩
  go_wp2_with fail
  go_ret
  exact ⟨rfl, (hkb.trans hk1).trans hk2⟩

set_option maxRecDepth 100000 in
set_option maxHeartbeats 1000000 in
theorem asks0 {p q r : Nat} {k m a b c : Int} {l v : Value} (hk : k ≤ 7) :
    Calls Tryz.prog 19 #[ptr W, .agg #[ptr p, ptr q, ptr r], opV k m a b c l v] w fun e w' => e = .returned (.bool true) ∧ Keeps [] w w' := by
  have e8 : (k == 8) = false := by simp; omega
  have e9 : (k == 9) = false := by simp; omega
  have e10 : (k == 10) = false := by simp; omega
  have e11 : (k == 11) = false := by simp; omega
  have e15 : (k == 15) = false := by simp; omega
  have e16 : (k == 16) = false := by simp; omega
  have e17 : (k == 17) = false := by simp; omega
  have hkb := boxed_keeps w p q r k m a b c l v
  unfold boxed opC ptr at hkb
  clear hk
  show Calls Tryz.prog 19 #[.pointer (some ⟨W, 0, none⟩), .agg #[.pointer (some ⟨p, 0, none⟩), .pointer (some ⟨q, 0, none⟩), .pointer (some ⟨r, 0, none⟩)], .agg #[.int .i64 k, .int .i64 m, .int .i64 a, .int .i64 b, .int .i64 c, l, v]] w _
  go_enter Tryz.func19, Tryz.ntmps19
  go_wp2_with fail
  go_ret
  exact ⟨rfl, hkb⟩
end

end Go.Proofs.YtmgjegokkbghlaaGreat

namespace Go.Proofs.YtmgjegokkbghlaaGreat
open Go.RowKit Go.Maps Bdd
set_option linter.unusedVariables false
attribute [local go_sem ↓] Go.wp_at_zero Go.wp_at_succ

theorem listB {n : Nat} {f : Nat → Bool} {i : Nat} (hi : i < n) : ((List.range n).map f).getD i false = f i := by simp [hi]
theorem listB_len (n : Nat) (f : Nat → Bool) : ((List.range n).map f).length = n := by simp

set_option maxRecDepth 100000 in
set_option maxHeartbeats 4000000 in
theorem asks9 {w0 w : World} {own : Own} {W K i : Nat} {ps : List Pr} {hs : List Nat} {x : Pr} (hW : WAt w0 w own W ps hs K) (hK : K ≤ 4000000000000) (hx : ps[i]? = some x) {m a b c : Int} {l : Value} {va : Option Addr} {vn vc : Nat} {f : Nat → Bool} (ha : Fits a) (hvn : vn ≤ 140737488351232) (hv0 : TruthsIn w0 va vn f) :
    Calls Tryz.prog 19 #[ptr W, .agg #[ptr x.p, ptr x.q, ptr x.r], opV 9 m a b c l (.slice va vn vc)] w fun e w' => e = .returned (.bool true) ∧ (∃ own' h, WAt w0 w' own' W ps (hs ++ [h]) (K + 1)) ∧ Free own w w' := by
  have HW : Hid (WAt w0 w own W ps hs K) := hW
  obtain ⟨hA, _, hp, hq, hr⟩ := hW.prs i x trivial hx
  obtain ⟨wb, hwb⟩ : ∃ wb, wb = boxed w x.p x.q x.r 9 m a b c l (.slice va vn vc) := ⟨_, rfl⟩
  have hkb : Keeps [] w wb := by rw [hwb]; exact boxed_keeps ..
  have x0 : wb.cell? ⟨w.heap.size, 0, none⟩ = some (.pointer (some ⟨x.p, 0, none⟩)) := by rw [hwb]; exact boxed_pair _ _ _ _ _ _ _ _ _ _ _ 0 _ rfl
  have x2 : wb.cell? ⟨w.heap.size, 2, none⟩ = some (.pointer (some ⟨x.r, 0, none⟩)) := by rw [hwb]; exact boxed_pair _ _ _ _ _ _ _ _ _ _ _ 2 _ rfl
  have o0 : wb.cell? ⟨w.heap.size + 1, 0, none⟩ = some (.int .i64 9) := by rw [hwb]; exact boxed_op _ _ _ _ _ _ _ _ _ _ _ 0 _ rfl
  have o2 : wb.cell? ⟨w.heap.size + 1, 2, none⟩ = some (.int .i64 a) := by rw [hwb]; exact boxed_op _ _ _ _ _ _ _ _ _ _ _ 2 _ rfl
  have o6 : wb.cell? ⟨w.heap.size + 1, 6, none⟩ = some (.slice va vn vc) := by rw [hwb]; exact boxed_op _ _ _ _ _ _ _ _ _ _ _ 6 _ rfl
  have lb1 : w.heap.size + 1 < wb.heap.size := cell_lt o0
  have hv : TruthsIn w va vn f := hv0.keeps hW.low
  have hPb := hp.keeps hkb (own' := own) (fun _ _ e => e)
  -- the calls
  have HL : Hid (∀ w1, Keeps [] w w1 → Calls Tryz.prog 50 #[.slice va vn vc] w1 fun e w' => ∃ g, e = .returned (.slice (some ⟨g, 0, none⟩) (vn + 8) (vn + 8)) ∧ w'.ownsRow w1.heap.size 4 1 (.slice (some ⟨g, 0, none⟩) (vn + 8) (vn + 8)) (vn + 8) (rowB (vn + 8) (lentF vn f)) ∧ Keeps [] w1 w') := fun w1 hk => lentTruths_any hvn (hv.keeps hk)
  have HP : Hid (∀ (w1 : World) (g cap : Nat), Keeps [] w w1 → (∀ i, i < vn → w1.cell? ⟨g, i, none⟩ = some (.bool (f i))) → Calls Tryz.prog 51 #[.pointer (some ⟨x.p, 0, none⟩), .int .i64 a, .slice (some ⟨g, 0, none⟩) vn cap] w1 fun e w' => e = .returned (.tuple #[.bool (valueOf x.A a ((List.range vn).map f)).1, .int .i64 (valueOf x.A a ((List.range vn).map f)).2]) ∧ Keeps [] w1 w') := fun w1 g cap hk hc => by
    have := ps_value (cap := cap) (vb := g) (v := (List.range vn).map f) (hp.keeps hk (own' := own) (fun _ _ e => e)) ha (fun i hi => by rw [listB_len] at hi; rw [listB hi]; exact hc i hi)
    rw [listB_len] at this
    exact this
  have HR : Hid (∀ (w1 : World) (own1 : Own), RW w1 own1 (4, i) x.r x.A → TruthsIn w1 va vn f → Calls Tryz.prog 54 #[.pointer (some ⟨x.r, 0, none⟩), .int .i64 a, .slice va vn vc] w1 fun e w2 => e = .returned (.tuple #[.bool (valueOf x.A a ((List.range vn).map f)).1, .int .i64 (valueOf x.A a ((List.range vn).map f)).2]) ∧ w1 = w2) := fun w1 own1 hrw ht => by
    have := rs_value (p := va) (cap := vc) (v := (List.range vn).map f) hPb hA hrw a (by
      rcases ht with h0 | ⟨vb, vo, e, hc⟩
      · exact Or.inl (by rw [listB_len]; exact h0)
      · exact Or.inr ⟨vb, vo, e, fun i hi => by rw [listB_len] at hi; rw [listB hi]; exact hc i hi⟩)
    rw [listB_len] at this
    exact this
  have HKT : Hid (∀ (w1 : World) (g : Nat), Keeps [] w w1 → w1.ownsRow wb.heap.size 4 1 (.slice (some ⟨g, 0, none⟩) (vn + 8) (vn + 8)) (vn + 8) (rowB (vn + 8) (lentF vn f)) → Calls Tryz.prog 53 #[.pointer (some ⟨W, 0, none⟩), .slice (some ⟨g, 0, none⟩) (vn + 8) (vn + 8)] w1 fun e w' => e = .returned (.tuple #[]) ∧ (∃ own' h, WAt w0 w' own' W ps (hs ++ [h]) (K + 1)) ∧ ∀ (p : Addr) (u : Value), p.block < wb.heap.size → newOwn own w (0, 0) p.block ≠ (1, 0) → w1.cell? p = some u → w'.cell? p = some u) := fun w1 g hk hown => by
    refine Calls.mono (keepTruths_any (own := newOwn own w (0, 0)) (hW.keeps hk (fun b tg hb _ e => by rw [newOwn_old hb]; exact e)) (by omega) hown (by have := (hown.lt g rfl).2; have := (hown.lt g rfl).1; omega) (by omega) (fun g' e => newOwn_new (by have h1 := (hown.lt g' e).1; have h2 := hkb.size; omega))) ?_
    rintro e w' ⟨rfl, own', h, h1, h2, _, _⟩
    refine ⟨rfl, ⟨own', h, h1⟩, fun p u n2 n1 hc => h2 p u n1 (fun e => ?_) hc⟩
    have := (hown.lt _ e).1
    omega
  obtain ⟨s1, hs1⟩ : ∃ s1, s1 = (valueOf x.A a ((List.range vn).map f)).1 := ⟨_, rfl⟩
  obtain ⟨s2, hs2⟩ : ∃ s2, s2 = (valueOf x.A a ((List.range vn).map f)).2 := ⟨_, rfl⟩
  rw [← hs1, ← hs2] at HP HR
  clear hs1 hs2
  have e1 : (s1 == s1) = true := by simp
  have e2 : (s2 == s2) = true := by simp
  have HX : Hid (ps[i]? = some x) := hx
  obtain ⟨p, hp'⟩ : ∃ p, p = x.p := ⟨_, rfl⟩
  obtain ⟨q, hq'⟩ : ∃ q, q = x.q := ⟨_, rfl⟩
  obtain ⟨r, hr'⟩ : ∃ r, r = x.r := ⟨_, rfl⟩
  have HRE : Hid (r = x.r) := hr'
  rw [← hp'] at HP x0 hwb ⊢
  rw [← hr'] at x2 hwb ⊢
  rw [← hq'] at hwb ⊢
  have HV0 : Hid (TruthsIn w0 va vn f) := hv0
  have hvn' : (vn : Int) ≤ 140737488351232 := by omega
  have hvn0 : (0 : Int) ≤ (vn : Int) := by omega
  have hvn8 : (vn : Int) ≤ ((vn + 8 : Nat) : Int) := by omega
  have hvn9 : (vn : Int) ≤ (vn : Int) + 8 := by omega
  clear hA hp hq hr hPb hp' hq' hr' hW hx hv hv0
  unfold Fits at ha
  show Calls Tryz.prog 19 #[.pointer (some ⟨W, 0, none⟩), .agg #[.pointer (some ⟨p, 0, none⟩), .pointer (some ⟨q, 0, none⟩), .pointer (some ⟨r, 0, none⟩)], .agg #[.int .i64 9, .int .i64 m, .int .i64 a, .int .i64 b, .int .i64 c, l, .slice va vn vc]] w _
  unfold boxed opC ptr at hwb
  go_enter Tryz.func19, Tryz.ntmps19
  go_wp2_with fail
  rw [← hwb]
  clear hwb
  refine (HL.out _ hkb).mono ?_
  rintro e w1 ⟨g, rfl, hown1, hk1⟩
  have y0 := hk1.cell x0 (by simp)
  have z2 := hk1.cell o2 (by simp)
  have z6 := hk1.cell o6 (by simp)
  have hkw1 := hkb.trans hk1
  have hcell1 : ∀ i, i < vn → w1.cell? ⟨g, i, none⟩ = some (.bool (f i)) := fun i hi => by
    rw [World.ownsRow.cellAt hown1 i (by omega), rowB_get _ (by omega)]
    simp [lentF, hi]
  have HO1 : Hid (w1.ownsRow wb.heap.size 4 1 (.slice (some ⟨g, 0, none⟩) (vn + 8) (vn + 8)) (vn + 8) (rowB (vn + 8) (lentF vn f))) := hown1
  have HC1 : Hid (∀ i, i < vn → w1.cell? ⟨g, i, none⟩ = some (.bool (f i))) := hcell1
  clear hown1 hcell1
  have hvcap : vn ≤ vn + 8 := by omega
  go_wp2_with fail
  go_region_held3 (fun w' => w'.cell? ⟨w.heap.size, 0, none⟩ = some (.pointer (some ⟨p, 0, none⟩)) ∧ w'.cell? ⟨w.heap.size + 1, 2, none⟩ = some (.int .i64 a) ∧ w'.cell? ⟨w.heap.size + 1, 6, none⟩ = some (.slice va vn vc))
    (first | exact ⟨y0, z2, z6⟩ | exact ⟨hk2.cell y0 (by simp), hk2.cell z2 (by simp), hk2.cell z6 (by simp)⟩ | assumption)
    (first
      | (go_at_call 51; refine (HP.out w1.drew g _ hkw1.drew (fun i hi => HC1.out i hi)).mono ?_; rintro e w2 ⟨rfl, hk2⟩))
  have hk2' : Keeps [] w1 w2 := ((Keeps.refl [] w1).drew).trans hk2
  have HO2 : Hid (w2.ownsRow wb.heap.size 4 1 (.slice (some ⟨g, 0, none⟩) (vn + 8) (vn + 8)) (vn + 8) (rowB (vn + 8) (lentF vn f))) := row_keeps HO1.out hk2' (by simp)
  have y6 := hk2'.cell z6 (by simp)
  have y2 := hk2'.cell z2 (by simp)
  have yx2 := hk2'.cell (hk1.cell x2 (by simp)) (by simp)
  have hkw2 := hkw1.trans hk2'
  clear HO1 HC1 hk2
  go_wp2_with fail
  refine (HL.out _ hkw2).mono ?_
  rintro e w3 ⟨g3, rfl, hown3, hk3⟩
  have HO3 : Hid (w3.ownsRow wb.heap.size 4 1 (.slice (some ⟨g, 0, none⟩) (vn + 8) (vn + 8)) (vn + 8) (rowB (vn + 8) (lentF vn f))) := row_keeps HO2.out hk3 (by simp)
  have HS : Hid (Calls Tryz.prog 52 #[.slice (some ⟨g, 0, none⟩) (vn + 8) (vn + 8), .slice (some ⟨g3, 0, none⟩) (vn + 8) (vn + 8)] w3 fun e w' => e = .returned (.bool true) ∧ Keeps [] w3 w') := sameTruths_any (f := lentF vn f) (by omega) (fun i hi => by rw [World.ownsRow.cellAt HO3.out i (by omega), rowB_get _ hi]) (fun i hi => by rw [World.ownsRow.cellAt hown3 i (by omega), rowB_get _ hi])
  clear hown3
  go_wp2_with fail
  refine HS.out.mono ?_
  rintro e w4 ⟨rfl, hk4⟩
  have hk34 := hk3.trans hk4
  have HO4 : Hid (w4.ownsRow wb.heap.size 4 1 (.slice (some ⟨g, 0, none⟩) (vn + 8) (vn + 8)) (vn + 8) (rowB (vn + 8) (lentF vn f))) := row_keeps HO3.out hk4 (by simp)
  have t2 := hk34.cell yx2 (by simp)
  have t6 := hk34.cell y6 (by simp)
  have ta := hk34.cell y2 (by simp)
  go_wp2_with fail
  refine (HKT.out w4 g (hkw2.trans hk34) HO4.out).mono ?_
  rintro e w5 ⟨rfl, ⟨own5, h5, hW5⟩, hcs⟩
  have n0 : newOwn own w (0, 0) w.heap.size ≠ (1, 0) := by rw [newOwn_new (Nat.le_refl _)]; simp
  have n1 : newOwn own w (0, 0) (w.heap.size + 1) ≠ (1, 0) := by rw [newOwn_new (by omega)]; simp
  have u2 := hcs _ _ (by show w.heap.size < _; omega) n0 t2
  have u6 := hcs _ _ lb1 n1 t6
  have ua := hcs _ _ lb1 n1 ta
  have hkw4 := hkw2.trans hk34
  have HFR : Hid (Free own w w5) := fun p u h0 hc => hcs p u (by have h1 := cell_lt hc; have h2 := hkb.size; omega) (by rw [newOwn_old (cell_lt hc), h0]; simp) (hkw4.cell hc (by simp))
  have HRC : Hid (Calls Tryz.prog 54 #[.pointer (some ⟨r, 0, none⟩), .int .i64 a, .slice va vn vc] w5 fun e w2 => e = .returned (.tuple #[.bool s1, .int .i64 s2]) ∧ w5 = w2) := by
    show Calls Tryz.prog 54 #[.pointer (some ⟨r, 0, none⟩), .int .i64 a, .slice va vn vc] w5 _
    rw [HRE.out]
    exact HR.out w5 own5 (hW5.prs i x trivial HX.out).2.2.2.2 (HV0.out.keeps hW5.low)
  have HW5 : Hid (WAt w0 w5 own5 W ps (hs ++ [h5]) (K + 1)) := hW5
  clear hW5 hcs
  go_wp2_with fail
  refine HRC.out.mono ?_
  rintro e w6 ⟨rfl, rfl⟩
  go_wp2_with fail
  go_ret
  exact ⟨rfl, ⟨own5, h5, HW5.out⟩, HFR.out⟩

end Go.Proofs.YtmgjegokkbghlaaGreat
