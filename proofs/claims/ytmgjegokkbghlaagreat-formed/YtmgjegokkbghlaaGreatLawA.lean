/- Lists that are lent: lentTruths, sameTruths; an append that leaves the old list as it was. What the law holds: lists that were lent or came out; marked. The law's world: its pairs, what it holds; looks. -/
import Derived.Test.YtmgjegokkbghlaaGreatPair
import Derived.Deep.AppendLies
import Derived.BigQuiet
namespace Go.Proofs.YtmgjegokkbghlaaGreat
open Go.RowKit Go.Maps Bdd
set_option linter.unusedVariables false
attribute [local go_sem ↓] Go.wp_at_zero Go.wp_at_succ

/-- append: in the old row, where there is room; else all that was there stays as it was -/
theorem run_append_stays {w : World} (base : Nat) (t ty e : TypeId) (i : TypeInfo) (z : Value) (size bytes : Nat) (ht : Tryz.prog.underlying t = some (.slice e)) (hi : Tryz.prog.info? e = some i) (hz : i.zero = some z) (hsize : i.size = size) (hby : i.bytes = bytes) (hzs : z.cells.size = size) (hsz : 0 < size)
    {v : Value} {n : Nat} {xs : List Value} (hown : w.ownsRow base e size v n xs) {a : Addr} {m c : Nat} {news : List Value} (hl : news.length = m * size) (hnews : ∀ j u, news[j]? = some u → w.cell? (a.add j) = some u) (h1 : ∀ u ∈ news, u.oneCell' = true) (hm : 0 < m)
    (h63 : n + m ≤ maxLen) (hbytes : (n + m) * bytes ≤ 140737488355328) (hbase : base ≤ w.heap.size) :
    ∃ g cap w', (Builtin.append_ #[t, t] ty #[v, .slice (some a) m c]).run Tryz.prog w = .ok (.slice (some ⟨g, 0, none⟩) (n + m) cap) w' ∧ w'.ownsRow base e size (.slice (some ⟨g, 0, none⟩) (n + m) cap) (n + m) (xs ++ news) ∧ ((v.ownBlock = some g ∧ w.grownBy w' (some g)) ∨ (g = w.heap.size ∧ w.grownBy w' none)) := by
  obtain ⟨v', w', hr, ho, hg, hn, hat⟩ := run_append_own_at (P := Tryz.prog) w base t ty e i z size bytes ht hi hz hsize hby hzs hsz v n xs hown a m c news hl hnews h1 h63 hbytes hbase
  obtain ⟨g, cap, rfl⟩ : ∃ g cap, v' = .slice (some ⟨g, 0, none⟩) (n + m) cap := by
    rcases ho.2 with ⟨_, h0⟩ | ⟨g, cap, cur, e, _⟩
    · omega
    · exact ⟨g, cap, e⟩
  refine ⟨g, cap, w', hr, ho, ?_⟩
  have eg : (Value.slice (some ⟨g, 0, none⟩) (n + m) cap).ownBlock = some g := rfl
  rw [eg] at hat
  rcases hown.2 with ⟨rfl, rfl⟩ | ⟨g0, cap0, cur, rfl, hbg, hgg, hnc, hcm, hcs, htake⟩
  · rcases hat with e | e
    · cases e
    · exact Or.inr ⟨by simpa using e, hg⟩
  · have eo : (Value.slice (some ⟨g0, 0, none⟩) n cap0).ownBlock = some g0 := rfl
    rw [eo] at hat hg ⊢
    by_cases hroom : n + m ≤ cap0
    · subst hsize
      have hr2 := run_append_room (P := Tryz.prog) w t ty e i ht hi g0 n cap0 cur hgg a m c news hl hnews h1 hroom (by rw [hl, hcs, ← Nat.add_mul]; exact Nat.mul_le_mul_right _ hroom)
      rw [hr2] at hr
      have e1 : g0 = g := by simp at hr; exact hr.1.1
      subst e1
      exact Or.inl ⟨rfl, hg⟩
    · subst hsize
      subst hby
      have hsmall : n + m ≤ 9223372036854775807 := by simp only [maxLen] at h63; omega
      have hr2 := run_append_grow (P := Tryz.prog) w t ty e i z ht hi hz ⟨g0, 0, none⟩ n cap0 xs hown.1 (hown.cells (g := g0) rfl) a m c news hl hnews (by omega) (by omega) (growslice_fits (by omega) hbytes)
      rw [hr2] at hr
      simp only [Result.ok.injEq, Value.slice.injEq, Option.some.injEq, Addr.mk.injEq] at hr
      obtain ⟨⟨⟨e1, _⟩, _⟩, e2⟩ := hr
      refine Or.inr ⟨e1.symm, ?_⟩
      rw [← e2]
      exact ⟨rfl, rfl, rfl, by simp, fun k hk _ => heap_alloc_old w.drew _ k hk⟩

/-- an append, where the walk meets it -/
theorem wpList_append_run {w w' : World} {ops : Array Oper} {rest : List Oper} {o : Oper} {a : Act} {Q : Exit → Act → World → Prop} (hg : o.guard = none) (s x : Operand) (t : TypeId) (hop : o.op = .call { callee := .builtin .append, args := #[s, x], argTypes := #[t, t] }) (v y r : Value) (hs : a.eval s = v) (hx : a.eval x = y) (hrun : (Builtin.append_ #[t, t] o.type #[v, y]).run Tryz.prog w = .ok r w')
    (h : wpList Tryz.prog ops Q rest (a.put o.dst r) w') : wpList Tryz.prog ops Q (o :: rest) a w := by
  refine wpList_plain hg fun K hK' => ?_
  unfold Oper.wp execOp
  simp only [hop, resolve, invoke, builtin, Sem.run_bind, Sem.run_pure, Result.andThen_ok, List.map_toArray, List.map_cons, List.map_nil, hs, hx, hrun]
  exact hK' _ _ h

/-- truth values, as a list has them -/
def rowB (L : Nat) (f : Nat → Bool) : List Value := (List.range L).map fun i => .bool (f i)
theorem rowB_len (L : Nat) (f : Nat → Bool) : (rowB L f).length = L := by simp [rowB]
theorem rowB_get {L : Nat} (f : Nat → Bool) {i : Nat} (hi : i < L) : (rowB L f)[i]? = some (.bool (f i)) := by simp [rowB, hi]
theorem rowB_set {L : Nat} {f f' : Nat → Bool} {j : Nat} {x : Bool} (hx : f' j = x) (hf : ∀ i, i ≠ j → f' i = f i) : (rowB L f).set j (.bool x) = rowB L f' := by
  apply List.ext_getElem?
  intro i
  rw [List.getElem?_set]
  by_cases e : j = i
  · subst e
    by_cases hj : j < L
    · rw [if_pos rfl, if_pos (by rw [rowB_len]; exact hj), rowB_get f' hj, hx]
    · rw [if_pos rfl, if_neg (by rw [rowB_len]; exact hj), List.getElem?_eq_none (by rw [rowB_len]; omega)]
  · rw [if_neg e]
    by_cases hi : i < L
    · rw [rowB_get f hi, rowB_get f' hi, hf i (fun e' => e e'.symm)]
    · rw [List.getElem?_eq_none (by rw [rowB_len]; omega), List.getElem?_eq_none (by rw [rowB_len]; omega)]
theorem rowB_congr {L : Nat} {f g : Nat → Bool} (h : ∀ i, i < L → f i = g i) : rowB L f = rowB L g := by
  unfold rowB
  exact List.map_congr_left (fun i hi => by rw [h i (by simpa using hi)])

/-- a list of truth values that came in -/
def TruthsIn (w : World) (a : Option Addr) (n : Nat) (f : Nat → Bool) : Prop := n = 0 ∨ ∃ vb vo, a = some ⟨vb, vo, none⟩ ∧ ∀ i, i < n → w.cell? ⟨vb, vo + i, none⟩ = some (.bool (f i))
theorem TruthsIn.keeps {w w' : World} {a : Option Addr} {n : Nat} {f : Nat → Bool} (h : TruthsIn w a n f) (hk : Keeps [] w w') : TruthsIn w' a n f := by
  rcases h with h | ⟨vb, vo, e, h⟩
  · exact Or.inl h
  · exact Or.inr ⟨vb, vo, e, fun i hi => hk.cell (h i hi) (by simp)⟩
/-- what is lent -/
def lentF (n : Nat) (f : Nat → Bool) (i : Nat) : Bool := if i < n then f i else i % 2 == 0

theorem make_bools {L : Nat} (hL : L ≤ 281474976710656) : ∀ w : World, (Instr.makeSlice 32 (.int .i64 (L : Int)) (.int .i64 (L : Int))).run Tryz.prog w = .ok (.slice (some ⟨w.heap.size, 0, none⟩) L L) (w.alloc (.cells (fillV (.bool false) L) 4)) := by
  obtain ⟨i, hi, hz0, hz1, hz2⟩ := info_parts info4
  intro w
  have := run_make (P := Tryz.prog) w 32 4 i (.bool false) Tryz.underlying32 hi hz0 .i64 .i64 (L : Int) (L : Int) (by omega) (by omega) (by rw [hz2]; omega) (by omega)
  rw [hz1, Int.toNat_natCast, made_fill _ rfl] at this
  exact this

set_option maxRecDepth 100000 in
set_option maxHeartbeats 1000000 in
theorem lentTruths_any {w : World} {a : Option Addr} {n cap : Nat} {f : Nat → Bool} (hn : n ≤ 140737488351232) (ha : TruthsIn w a n f) :
    Calls Tryz.prog 50 #[.slice a n cap] w fun e w' => ∃ g, e = .returned (.slice (some ⟨g, 0, none⟩) (n + 8) (n + 8)) ∧ w'.ownsRow w.heap.size 4 1 (.slice (some ⟨g, 0, none⟩) (n + 8) (n + 8)) (n + 8) (rowB (n + 8) (lentF n f)) ∧ Keeps [] w w' := by
  have HMB := make_bools (L := n + 8) (by omega)
  have e8 : ((n + 8 : Nat) : Int) = (n : Int) + 8 := by omega
  rw [e8] at HMB
  have HM : Hid (∀ w : World, (Instr.makeSlice 32 (.int .i64 ((n : Int) + 8)) (.int .i64 ((n : Int) + 8))).run Tryz.prog w = .ok (.slice (some ⟨w.heap.size, 0, none⟩) (n + 8) (n + 8)) (w.alloc (.cells (fillV (.bool false) (n + 8)) 4))) := HMB
  have hn1 : (n : Int) ≤ 140737488351232 := by omega
  have HA : Hid (TruthsIn w a n f) := ha
  clear ha HMB
  obtain ⟨Y, hY⟩ : ∃ Y, Y = w.alloc (.cells (fillV (.bool false) (n + 8)) 4) := ⟨_, rfl⟩
  have hkY : Keeps [] w Y := by rw [hY]; exact (Keeps.refl _ _).alloc _
  have hoY : Y.ownsRow w.heap.size 4 1 (.slice (some ⟨w.heap.size, 0, none⟩) (n + 8) (n + 8)) (n + 8) (rowB (n + 8) (fun _ => false)) := by
    rw [hY]
    have := World.ownsRow_lit (e := 4) (size := 1) (base := w.heap.size) w (fillV (.bool false) (n + 8)) (n + 8) (Nat.le_refl _) (by simp only [maxLen]; omega) (by simp [fillV])
    have e : (fillV (.bool false) (n + 8)).toList = rowB (n + 8) (fun _ => false) := by simp [fillV, rowB]
    rw [e] at this
    exact this
  have hlY : w.heap.size + 1 = Y.heap.size := by rw [hY]; simp
  go_enter Tryz.func50, Tryz.ntmps50
  go_wp2_with (first
    | (at_make; refine wpList_make_at rfl _ _ 32 rfl (.int .i64 ((n : Int) + 8)) (.int .i64 ((n : Int) + 8)) _ rfl rfl (HM.out _) ?_)
    | fail)
  rw [← hY]
  clear hY
  go_loopw [4] (fun x wr => ∃ j : Nat, j ≤ n + 8 ∧ x = .int .i64 j ∧ wr.ownsRow w.heap.size 4 1 (.slice (some ⟨w.heap.size, 0, none⟩) (n + 8) (n + 8)) (n + 8) (rowB (n + 8) (fun i => if i < j then lentF n f i else false)) ∧ Keeps [w.heap.size] Y wr) (fun x _ => n + 8 - (intOf x).toNat)
  case atStart =>
    refine ⟨0, by omega, rfl, ?_, Keeps.refl _ _⟩
    have e : rowB (n + 8) (fun i => if i < 0 then lentF n f i else false) = rowB (n + 8) (fun _ => false) := rowB_congr (fun i _ => by simp)
    rw [e]
    exact hoY
  case round =>
    obtain ⟨j, hj, rfl, hown, hk⟩ := hrel
    by_cases hlt : j < n + 8
    · have hj0 : (0 : Int) ≤ (j : Int) := by omega
      have hj1 : (j : Int) < (n : Int) + 8 := by omega
      have p1 : wr.cell? ⟨w.heap.size, j, none⟩ = some (.bool false) := by
        rw [World.ownsRow.cellAt hown j (by omega), rowB_get _ hlt]; simp
      have p2 := World.ownsRow.frozenAt hown j
      have hs1 := (World.ownsRow.stored hown j (.bool (j % 2 == 0))).1
      have hmod : ((j : Int).tmod 2 == 0) = (j % 2 == 0) := by
        rw [Int.tmod_eq_emod_of_nonneg hj0]
        have : ((j : Int) % 2 == 0) = (j % 2 == 0) := by
          by_cases e : j % 2 = 0
          · have : (j : Int) % 2 = 0 := by omega
            simp [e, this]
          · have h1 : (j % 2 == 0) = false := by simpa using e
            have h2 : ((j : Int) % 2 == 0) = false := by simp; omega
            rw [h1, h2]
        exact this
      have hmod2 : ((j : Int) % 2 == 0) = (j % 2 == 0) := by
        rw [← hmod, Int.tmod_eq_emod_of_nonneg hj0]
      have HMOD : Hid (((j : Int) % 2 == 0) = (j % 2 == 0)) := hmod2
      clear hmod hmod2
      by_cases hja : j < n
      · have hja1 : (j : Int) < (n : Int) := by omega
        obtain ⟨vb, vo, ea, hv⟩ : ∃ vb vo, a = some ⟨vb, vo, none⟩ ∧ ∀ i, i < n → w.cell? ⟨vb, vo + i, none⟩ = some (.bool (f i)) := by
          rcases HA.out with h | h
          · omega
          · exact h
        subst ea
        have hvl : vb < w.heap.size := cell_lt (hv j hja)
        have p3 := hk.cell (hkY.cell (hv j hja) (by simp)) (by simp; omega)
        have p4 : (wr.setCell ⟨w.heap.size, j, none⟩ (.bool (j % 2 == 0))).cell? ⟨vb, vo + j, none⟩ = some (.bool (f j)) := by
          rw [World.cell?_setCell_far _ _ _ _ (by simp; omega)]
          exact p3
        have p5 : (wr.setCell ⟨w.heap.size, j, none⟩ (.bool (j % 2 == 0))).cell? ⟨w.heap.size, j, none⟩ = some (.bool (j % 2 == 0)) := World.cell?_setCell_same _ _ _ p1
        have p6 := World.ownsRow.frozenAt hs1 j
        have hs2 := (World.ownsRow.stored hs1 j (.bool (f j))).1
        rw [rowB_set (f' := fun i => if i = j then (j % 2 == 0) else if i < j then lentF n f i else false) (by simp) (fun i hi => by simp [hi]), rowB_set (f' := fun i => if i < j + 1 then lentF n f i else false) (by simp [lentF, hja]) (fun i hi => by
          by_cases e : i < j
          · simp [e, hi]; omega
          · have : ¬ i < j + 1 := by omega
            simp [e, hi, this])] at hs2
        obtain ⟨fj, hfj⟩ : ∃ fj, fj = f j := ⟨_, rfl⟩
        rw [← hfj] at p3 p4 hs2
        obtain ⟨bj, hbj⟩ : ∃ bj, bj = (j % 2 == 0) := ⟨_, rfl⟩
        rw [← hbj] at p4 p5 p6 hs2 HMOD
        have HM2 : ((j : Int) % 2 == 0) = bj := HMOD.out
        have HS : Hid (((wr.setCell ⟨w.heap.size, j, none⟩ (.bool bj)).setCell ⟨w.heap.size, j, none⟩ (.bool fj)).ownsRow w.heap.size 4 1 (.slice (some ⟨w.heap.size, 0, none⟩) (n + 8) (n + 8)) (n + 8) (rowB (n + 8) (fun i => if i < j + 1 then lentF n f i else false))) := hs2
        clear hs1 hs2 hown hfj hbj hv
        go_wp2_with fail
        go_roundw
        case rel =>
          exact ⟨j + 1, by omega, by go_num, HS.out, (hk.setCell _ (Or.inl (by simp)) _).setCell _ (Or.inl (by simp)) _⟩
        case measure => simp [intOf]; omega
      · have hja1 : (n : Int) ≤ (j : Int) := by omega
        rw [rowB_set (f' := fun i => if i < j + 1 then lentF n f i else false) (by simp [lentF, hja]) (fun i hi => by
          by_cases e : i < j
          · simp [e]; omega
          · have : ¬ i < j + 1 := by omega
            simp [e, this])] at hs1
        obtain ⟨bj, hbj⟩ : ∃ bj, bj = (j % 2 == 0) := ⟨_, rfl⟩
        rw [← hbj] at hs1 HMOD
        have HM2 : ((j : Int) % 2 == 0) = bj := HMOD.out
        have HS : Hid ((wr.setCell ⟨w.heap.size, j, none⟩ (.bool bj)).ownsRow w.heap.size 4 1 (.slice (some ⟨w.heap.size, 0, none⟩) (n + 8) (n + 8)) (n + 8) (rowB (n + 8) (fun i => if i < j + 1 then lentF n f i else false))) := hs1
        clear hs1 hown hbj
        go_wp2_with fail
        go_roundw
        case rel =>
          exact ⟨j + 1, by omega, by go_num, HS.out, hk.setCell _ (Or.inl (by simp)) _⟩
        case measure => simp [intOf]; omega
    · have e : j = n + 8 := by omega
      have hj1 : (n : Int) + 8 ≤ (j : Int) := by omega
      have HO : Hid (wr.ownsRow w.heap.size 4 1 (.slice (some ⟨w.heap.size, 0, none⟩) (n + 8) (n + 8)) (n + 8) (rowB (n + 8) (lentF n f))) := by
        have e2 : rowB (n + 8) (fun i => if i < j then lentF n f i else false) = rowB (n + 8) (lentF n f) := rowB_congr (fun i hi => by rw [if_pos (by omega)])
        rw [← e2]
        exact hown
      clear hown
      go_wp2_with fail
      go_ret
      exact ⟨_, rfl, HO.out, ((hkY.mono (by simp)).trans hk).strike (by simp)⟩

set_option maxRecDepth 100000 in
set_option maxHeartbeats 1000000 in
theorem sameTruths_any {w : World} {n g g' cap cap' : Nat} {f : Nat → Bool} (hn : n ≤ 4611686018427387904) (h1 : ∀ i, i < n → w.cell? ⟨g, i, none⟩ = some (.bool (f i))) (h2 : ∀ i, i < n → w.cell? ⟨g', i, none⟩ = some (.bool (f i))) :
    Calls Tryz.prog 52 #[.slice (some ⟨g, 0, none⟩) n cap, .slice (some ⟨g', 0, none⟩) n cap'] w fun e w' => e = .returned (.bool true) ∧ Keeps [] w w' := by
  have hn1 : (n : Int) ≤ 4611686018427387904 := by omega
  go_enter Tryz.func52, Tryz.ntmps52
  go_wp2_with fail
  go_loopw [5] (fun x wr => ∃ j : Nat, j ≤ n ∧ x = .int .i64 j ∧ Keeps [] w wr) (fun x _ => n - (intOf x).toNat)
  case atStart => exact ⟨0, by omega, rfl, Keeps.refl _ _⟩
  case round =>
    obtain ⟨j, hj, rfl, hk⟩ := hrel
    by_cases hlt : j < n
    · have hj0 : (0 : Int) ≤ (j : Int) := by omega
      have hj1 : (j : Int) < (n : Int) := by omega
      have p1 := hk.cell (h1 j hlt) (by simp)
      have p2 := hk.cell (h2 j hlt) (by simp)
      obtain ⟨b, hb⟩ : ∃ b, b = f j := ⟨_, rfl⟩
      rw [← hb] at p1 p2
      clear hb
      go_wp2_with fail
      go_quiet (fail)
      go_wp2_with fail
      go_roundw
      case rel => exact ⟨j + 1, by omega, by go_num, hk.drewN _⟩
      case measure => simp [intOf]; omega
    · have e : (n : Int) ≤ (j : Int) := by omega
      go_wp2_with fail
      go_ret
      exact ⟨rfl, hk⟩

end Go.Proofs.YtmgjegokkbghlaaGreat

namespace Go.Proofs.YtmgjegokkbghlaaGreat
open Go.RowKit Go.Maps Bdd
set_option linter.unusedVariables false
attribute [local go_sem ↓] Go.wp_at_zero Go.wp_at_succ

/-- a list whose cells are all of one value -/
def AllC (w : World) (own : Own) (tg : Tag) (u x : Value) : Prop := ∃ a n cap, u = .slice a n cap ∧ n ≤ 140737488355328 ∧ (n = 0 ∨ ∃ g, a = some ⟨g, 0, none⟩ ∧ own g = tg ∧ ∀ i, i < n → w.cell? ⟨g, i, none⟩ = some x)
/-- a list of such lists -/
def ListC (w : World) (own : Own) (tg : Tag) (v x : Value) : Prop := ∃ a n cap, v = .slice a n cap ∧ n ≤ 9 ∧ (n = 0 ∨ ∃ g, a = some ⟨g, 0, none⟩ ∧ own g = tg ∧ ∀ i, i < n → ∃ u, w.cell? ⟨g, i, none⟩ = some u ∧ AllC w own tg u x)
/-- A HOLD: every place reads as it was written -/
def HoldOk (w : World) (own : Own) (tg : Tag) (h : Nat) : Prop := own h = tg ∧ ∃ (iv tv : Value) (m : Int) (b : Bool), w.cell? ⟨h, 0, none⟩ = some iv ∧ w.cell? ⟨h, 1, none⟩ = some tv ∧ w.cell? ⟨h, 2, none⟩ = some (.slice none 0 0) ∧ w.cell? ⟨h, 3, none⟩ = some (.int .i64 m) ∧ w.cell? ⟨h, 4, none⟩ = some (.bool b) ∧ ListC w own tg iv (.int .i64 m) ∧ ListC w own tg tv (.bool b)

section
variable {w w' : World} {own own' : Own} {tg : Tag} {T : Tag → Prop}
theorem AllC.frame {u x : Value} (h : AllC w own tg u x) (ho : Onlys own T w w') (hne : ¬ T tg) (hown : ∀ b, b < w.heap.size → own b = tg → own' b = tg) : AllC w' own' tg u x := by
  obtain ⟨a, n, cap, e, hn, h⟩ := h
  refine ⟨a, n, cap, e, hn, ?_⟩
  rcases h with h | ⟨g, ea, hg, hc⟩
  · exact Or.inl h
  · by_cases h0 : n = 0
    · exact Or.inl h0
    · exact Or.inr ⟨g, ea, hown g (cell_lt (hc 0 (by omega))) hg, fun i hi => ho.cell (hc i hi) (by show ¬ T (own g); rw [hg]; exact hne)⟩
theorem ListC.frame {v x : Value} (h : ListC w own tg v x) (ho : Onlys own T w w') (hne : ¬ T tg) (hown : ∀ b, b < w.heap.size → own b = tg → own' b = tg) : ListC w' own' tg v x := by
  obtain ⟨a, n, cap, e, hn, h⟩ := h
  refine ⟨a, n, cap, e, hn, ?_⟩
  rcases h with h | ⟨g, ea, hg, hc⟩
  · exact Or.inl h
  · by_cases h0 : n = 0
    · exact Or.inl h0
    · obtain ⟨u0, hu0, _⟩ := hc 0 (by omega)
      refine Or.inr ⟨g, ea, hown g (cell_lt hu0) hg, fun i hi => ?_⟩
      obtain ⟨u, hu, hall⟩ := hc i hi
      exact ⟨u, ho.cell hu (by show ¬ T (own g); rw [hg]; exact hne), hall.frame ho hne hown⟩
theorem HoldOk.frame {h : Nat} (hh : HoldOk w own tg h) (ho : Onlys own T w w') (hne : ¬ T tg) (hown : ∀ b, b < w.heap.size → own b = tg → own' b = tg) : HoldOk w' own' tg h := by
  obtain ⟨h0, iv, tv, m, b, c0, c1, c2, c3, c4, hi, ht⟩ := hh
  have hnt : ¬ T (own h) := by rw [h0]; exact hne
  exact ⟨hown h (cell_lt c0) h0, iv, tv, m, b, ho.cell c0 hnt, ho.cell c1 hnt, ho.cell c2 hnt, ho.cell c3 hnt, ho.cell c4 hnt, hi.frame ho hne hown, ht.frame ho hne hown⟩
end

set_option maxRecDepth 100000 in
set_option maxHeartbeats 4000000 in
theorem marked_any {w : World} {own : Own} {tg : Tag} {h : Nat} (H : HoldOk w own tg h) : Calls Tryz.prog 20 #[.pointer (some ⟨h, 0, none⟩)] w fun e w' => e = .returned (.bool true) ∧ Keeps [] w w' := by
  obtain ⟨_, iv, tv, m, b, c0, c1, c2, c3, c4, hi, ht⟩ := H
  obtain ⟨ia, il, ic, rfl, hil, hi⟩ := hi
  obtain ⟨ta, tl, tc, rfl, htl, ht⟩ := ht
  have hil' : (il : Int) ≤ 9 := by omega
  have htl' : (tl : Int) ≤ 9 := by omega
  have HI : Hid (il = 0 ∨ ∃ g, ia = some ⟨g, 0, none⟩ ∧ own g = tg ∧ ∀ i, i < il → ∃ u, w.cell? ⟨g, i, none⟩ = some u ∧ AllC w own tg u (.int .i64 m)) := hi
  have HT : Hid (tl = 0 ∨ ∃ g, ta = some ⟨g, 0, none⟩ ∧ own g = tg ∧ ∀ i, i < tl → ∃ u, w.cell? ⟨g, i, none⟩ = some u ∧ AllC w own tg u (.bool b)) := ht
  clear hi ht
  go_enter Tryz.func20, Tryz.ntmps20
  go_wp2_with fail
  go_loopw [3] (fun x wr => ∃ j : Nat, j ≤ il ∧ x = .int .i64 j ∧ Keeps [] w wr) (fun x _ => il - (intOf x).toNat)
  case atStart => exact ⟨0, by omega, rfl, Keeps.refl _ _⟩
  case round =>
    obtain ⟨j, hj, rfl, hk⟩ := hrel
    have d0 := hk.cell c0 (by simp)
    by_cases hlt : j < il
    · have hj0 : (0 : Int) ≤ (j : Int) := by omega
      have hj1 : (j : Int) < (il : Int) := by omega
      obtain ⟨g, ea, _, hcells⟩ : ∃ g, ia = some ⟨g, 0, none⟩ ∧ own g = tg ∧ ∀ i, i < il → ∃ u, w.cell? ⟨g, i, none⟩ = some u ∧ AllC w own tg u (.int .i64 m) := by
        rcases HI.out with h | h
        · omega
        · exact h
      subst ea
      obtain ⟨u, hu, ua, un, uc, rfl, hun, hall⟩ := hcells j hlt
      have HALL : Hid (un = 0 ∨ ∃ g, ua = some ⟨g, 0, none⟩ ∧ own g = tg ∧ ∀ i, i < un → w.cell? ⟨g, i, none⟩ = some (.int .i64 m)) := hall
      have hun' : (un : Int) ≤ 140737488355328 := by omega
      clear hall hcells
      go_wp2_with fail
      go_loopw [4] (fun y wq => ∃ k : Nat, k ≤ un ∧ y = .int .i64 k ∧ Keeps [] w wq) (fun y _ => un - (intOf y).toNat)
      case atStart => exact ⟨0, by omega, rfl, hk⟩
      case round =>
        obtain ⟨k, hkn, rfl, hq⟩ := hrel
        have q0 := hq.cell c0 (by simp)
        have q1 := hq.cell hu (by simp)
        by_cases hlk : k < un
        · have hk0 : (0 : Int) ≤ (k : Int) := by omega
          have hk1 : (k : Int) < (un : Int) := by omega
          obtain ⟨g2, ea2, _, hc2⟩ : ∃ g, ua = some ⟨g, 0, none⟩ ∧ own g = tg ∧ ∀ i, i < un → w.cell? ⟨g, i, none⟩ = some (.int .i64 m) := by
            rcases HALL.out with h | h
            · omega
            · exact h
          subst ea2
          have q2 := hq.cell (hc2 k hlk) (by simp)
          have q3 := hq.cell c3 (by simp)
          clear hc2
          go_wp2_with fail
          go_quiet (fail)
          go_wp2_with fail
          go_roundw
          case rel => exact ⟨k + 1, by omega, by go_num, hq.drewN _⟩
          case measure => simp [intOf]; omega
        · have hk1 : (un : Int) ≤ (k : Int) := by omega
          go_wp2_with fail
          go_roundw
          case rel => exact ⟨j + 1, by omega, by go_num, hq⟩
          case measure => simp [intOf]; omega
    · have hj1 : (il : Int) ≤ (j : Int) := by omega
      have d2 := hk.cell c2 (by simp)
      go_wp2_with fail
      go_loopw [5] (fun x wq => x = .int .i64 0 ∧ Keeps [] w wq) (fun _ _ => 0)
      case atStart => exact ⟨rfl, hk⟩
      case round =>
        obtain ⟨rfl, hk2⟩ := hrel
        have e2 := hk2.cell c2 (by simp)
        go_wp2_with fail
        go_loopw [7] (fun x wr => ∃ j : Nat, j ≤ tl ∧ x = .int .i64 j ∧ Keeps [] w wr) (fun x _ => tl - (intOf x).toNat)
        case atStart => exact ⟨0, by omega, rfl, hk2⟩
        case round =>
          obtain ⟨j, hj, rfl, hk⟩ := hrel
          have d1 := hk.cell c1 (by simp)
          by_cases hlt : j < tl
          · have hj0 : (0 : Int) ≤ (j : Int) := by omega
            have hj1 : (j : Int) < (tl : Int) := by omega
            obtain ⟨g, ea, _, hcells⟩ : ∃ g, ta = some ⟨g, 0, none⟩ ∧ own g = tg ∧ ∀ i, i < tl → ∃ u, w.cell? ⟨g, i, none⟩ = some u ∧ AllC w own tg u (.bool b) := by
              rcases HT.out with h | h
              · omega
              · exact h
            subst ea
            obtain ⟨u, hu, ua, un, uc, rfl, hun, hall⟩ := hcells j hlt
            have HALL : Hid (un = 0 ∨ ∃ g, ua = some ⟨g, 0, none⟩ ∧ own g = tg ∧ ∀ i, i < un → w.cell? ⟨g, i, none⟩ = some (.bool b)) := hall
            have hun' : (un : Int) ≤ 140737488355328 := by omega
            clear hall hcells
            go_wp2_with fail
            go_loopw [8] (fun y wq => ∃ k : Nat, k ≤ un ∧ y = .int .i64 k ∧ Keeps [] w wq) (fun y _ => un - (intOf y).toNat)
            case atStart => exact ⟨0, by omega, rfl, hk⟩
            case round =>
              obtain ⟨k, hkn, rfl, hq⟩ := hrel
              have q0 := hq.cell c1 (by simp)
              have q1 := hq.cell hu (by simp)
              by_cases hlk : k < un
              · have hk0 : (0 : Int) ≤ (k : Int) := by omega
                have hk1 : (k : Int) < (un : Int) := by omega
                obtain ⟨g2, ea2, _, hc2⟩ : ∃ g, ua = some ⟨g, 0, none⟩ ∧ own g = tg ∧ ∀ i, i < un → w.cell? ⟨g, i, none⟩ = some (.bool b) := by
                  rcases HALL.out with h | h
                  · omega
                  · exact h
                subst ea2
                have q2 := hq.cell (hc2 k hlk) (by simp)
                have q3 := hq.cell c4 (by simp)
                clear hc2
                go_wp2_with fail
                go_quiet (fail)
                go_wp2_with fail
                go_roundw
                case rel => exact ⟨k + 1, by omega, by go_num, hq.drewN _⟩
                case measure => simp [intOf]; omega
              · have hk1 : (un : Int) ≤ (k : Int) := by omega
                go_wp2_with fail
                go_roundw
                case rel => exact ⟨j + 1, by omega, by go_num, hq⟩
                case measure => simp [intOf]; omega
          · have hj1 : (tl : Int) ≤ (j : Int) := by omega
            go_wp2_with fail
            go_ret
            exact ⟨rfl, hk⟩

end Go.Proofs.YtmgjegokkbghlaaGreat

namespace Go.Proofs.YtmgjegokkbghlaaGreat
open Go.RowKit Go.Maps Bdd
set_option linter.unusedVariables false
attribute [local go_sem ↓] Go.wp_at_zero Go.wp_at_succ

/-- a pair: the program's store, its twin, the document's; what they hold -/
structure Pr where
  p : Nat
  q : Nat
  r : Nat
  A : Abs
def ptr (b : Nat) : Value := .pointer (some ⟨b, 0, none⟩)
def prV (x : Pr) : List Value := [ptr x.p, ptr x.q, ptr x.r]
def flatP (ps : List Pr) : List Value := (ps.map prV).flatten
theorem flatP_snoc (ps : List Pr) (x : Pr) : flatP (ps ++ [x]) = flatP ps ++ [ptr x.p, ptr x.q, ptr x.r] := by simp [flatP, prV]
theorem flatP_get : ∀ (ps : List Pr) (i : Nat) (x : Pr), ps[i]? = some x → (flatP ps)[i * 3]? = some (ptr x.p) ∧ (flatP ps)[i * 3 + 1]? = some (ptr x.q) ∧ (flatP ps)[i * 3 + 2]? = some (ptr x.r)
  | [], i, x, h => by simp at h
  | y :: r, 0, x, h => by simp at h; subst h; simp [flatP, prV]
  | y :: r, i + 1, x, h => by
    have := flatP_get r i x (by simpa using h)
    have e1 : (i + 1) * 3 = i * 3 + 1 + 1 + 1 := by omega
    have e3 : flatP (y :: r) = ptr y.p :: ptr y.q :: ptr y.r :: flatP r := by simp [flatP, prV]
    rw [e1, e3]
    simpa using this
theorem set_same {α : Type} : ∀ (l : List α) (i : Nat) (x : α), l[i]? = some x → l.set i x = l
  | [], i, x, h => by simp
  | y :: r, 0, x, h => by simp at h; subst h; simp
  | y :: r, i + 1, x, h => by simp only [List.set_cons_succ]; rw [set_same r i x (by simpa using h)]
theorem flatP_set {ps : List Pr} {i : Nat} {x x' : Pr} (h : ps[i]? = some x) (e : prV x' = prV x) : flatP (ps.set i x') = flatP ps := by
  unfold flatP
  rw [List.map_set, e, set_same _ _ _ (by simp [h])]

/-- A PAIR: the three hold the same -/
def PairOk (w : World) (own : Own) (i : Nat) (x : Pr) (K : Nat) : Prop := AbsOk x.A ∧ x.A.la ≤ (K : Int) ∧ PS w own (2, i) x.p x.A (1 + 100000 * (K : Int)) ∧ PS w own (3, i) x.q x.A (1 + 100000 * (K : Int)) ∧ RW w own (4, i) x.r x.A
theorem PairOk.wider {w : World} {own : Own} {i : Nat} {x : Pr} {K K' : Nat} (h : PairOk w own i x K) (hk : K ≤ K') : PairOk w own i x K' := by
  obtain ⟨h1, h2, h3, h4, h5⟩ := h
  exact ⟨h1, by omega, h3.wider (by omega), h4.wider (by omega), h5⟩
theorem PairOk.frame {w w' : World} {own own' : Own} {i : Nat} {x : Pr} {K : Nat} {T : Tag → Prop} (h : PairOk w own i x K) (ho : Onlys own T w w') (t2 : ¬ T (2, i)) (t3 : ¬ T (3, i)) (t4 : ¬ T (4, i)) (o2 : ∀ b, b < w.heap.size → own b = (2, i) → own' b = (2, i)) (o3 : ∀ b, b < w.heap.size → own b = (3, i) → own' b = (3, i)) (o4 : ∀ b, b < w.heap.size → own b = (4, i) → own' b = (4, i)) : PairOk w' own' i x K := by
  obtain ⟨h1, h2, h3, h4, h5⟩ := h
  exact ⟨h1, h2, h3.frame ho t2 o2, h4.frame ho t3 o3, h5.frame h1 ho t4 o4⟩

/-- THE LAW'S WORLD, at W: its pairs (those of Q are told), what it holds; nothing was hurt; what was there ahead of it (w0) is as it was. -/
structure WX (Q : Nat → Prop) (w0 w : World) (own : Own) (W : Nat) (ps : List Pr) (hs : List Nat) (K : Nat) : Prop where
  low : Keeps [] w0 w
  mine : ∀ b, b < w0.heap.size → own b = (0, 1)
  ow : own W = (1, 0)
  fr : ∀ j, w.frozen? ⟨W, j, none⟩ = false
  c0 : ∃ pv, w.cell? ⟨W, 0, none⟩ = some pv ∧ w.ownsRow 0 44 3 pv ps.length (flatP ps) ∧ pv.ownBlock ≠ some W ∧ ∀ g, pv.ownBlock = some g → own g = (1, 0)
  c1 : ∃ hv, w.cell? ⟨W, 1, none⟩ = some hv ∧ w.ownsRow 0 51 1 hv hs.length (hs.map ptr) ∧ hv.ownBlock ≠ some W ∧ ∀ g, hv.ownBlock = some g → own g = (1, 0)
  c2 : w.cell? ⟨W, 2, none⟩ = some (.bool false)
  prs : ∀ i x, Q i → ps[i]? = some x → PairOk w own i x K
  hds : ∀ j h, hs[j]? = some h → HoldOk w own (5, j) h
  kp : ps.length ≤ K
  kh : hs.length ≤ K
abbrev WAt := WX (fun _ => True)

section
variable {Q : Nat → Prop} {w0 w w' : World} {own own' : Own} {W : Nat} {ps : List Pr} {hs : List Nat} {K : Nat}
theorem WX.lt (h : WX Q w0 w own W ps hs K) : W < w.heap.size := cell_lt (p := ⟨W, 2, none⟩) h.c2
theorem WX.sub {Q' : Nat → Prop} (h : WX Q w0 w own W ps hs K) (hq : ∀ i, Q' i → Q i) : WX Q' w0 w own W ps hs K :=
  ⟨h.low, h.mine, h.ow, h.fr, h.c0, h.c1, h.c2, fun i x hi hx => h.prs i x (hq i hi) hx, h.hds, h.kp, h.kh⟩
theorem WX.wider {K' : Nat} (h : WX Q w0 w own W ps hs K) (hk : K ≤ K') : WX Q w0 w own W ps hs K' :=
  ⟨h.low, h.mine, h.ow, h.fr, h.c0, h.c1, h.c2, fun i x hi hx => (h.prs i x hi hx).wider hk, h.hds, Nat.le_trans h.kp hk, Nat.le_trans h.kh hk⟩
/-- what was there stays as it was -/
theorem low_keeps {T : Tag → Prop} (low : Keeps [] w0 w) (mine : ∀ b, b < w0.heap.size → own b = (0, 1)) (ho : Onlys own T w w') (t0 : ¬ T (0, 1)) : Keeps [] w0 w' := by
  obtain ⟨S, hk, g⟩ := ho
  refine ((low.mono (by simp)).trans hk).strike (fun i hi hl => ?_)
  rcases g i hi with e | e
  · rw [mine i hl] at e
    exact absurd e t0
  · have := low.size; omega
theorem WX.frame {T : Tag → Prop} (h : WX Q w0 w own W ps hs K) (ho : Onlys own T w w') (t0 : ¬ T (0, 1)) (t1 : ¬ T (1, 0)) (t2 : ∀ i, Q i → ¬ T (2, i)) (t3 : ∀ i, Q i → ¬ T (3, i)) (t4 : ∀ i, Q i → ¬ T (4, i)) (t5 : ∀ i, ¬ T (5, i))
    (hown : ∀ b tg, b < w.heap.size → tg ≠ (0, 0) → own b = tg → own' b = tg) (hs0 : w0.heap.size ≤ w.heap.size) : WX Q w0 w' own' W ps hs K := by
  have nW : ¬ T (own W) := by rw [h.ow]; exact t1
  have hW := h.lt
  obtain ⟨pv, p1, p2, p3, p4⟩ := h.c0
  obtain ⟨hv, q1, q2, q3, q4⟩ := h.c1
  refine ⟨low_keeps h.low h.mine ho t0, fun b hb => hown b _ (by omega) (by simp) (h.mine b hb), hown W _ hW (by simp) h.ow, fun j => (ho.frozen (p := ⟨W, j, none⟩) hW nW).trans (h.fr j), ⟨pv, ho.cell p1 nW, ho.row p2 (fun g hg => by rw [p4 g hg]; exact t1), p3, fun g hg => hown g _ (p2.lt g hg).2 (by simp) (p4 g hg)⟩, ⟨hv, ho.cell q1 nW, ho.row q2 (fun g hg => by rw [q4 g hg]; exact t1), q3, fun g hg => hown g _ (q2.lt g hg).2 (by simp) (q4 g hg)⟩, ho.cell h.c2 nW, fun i x hi hx => ?_, fun j x hx => ?_, h.kp, h.kh⟩
  · exact (h.prs i x hi hx).frame ho (t2 i hi) (t3 i hi) (t4 i hi) (fun b hb e => hown b _ hb (by simp) e) (fun b hb e => hown b _ hb (by simp) e) (fun b hb e => hown b _ hb (by simp) e)
  · exact (h.hds j x hx).frame ho (t5 j) (fun b hb e => hown b _ hb (by simp) e)
theorem WX.keeps (h : WX Q w0 w own W ps hs K) (hk : Keeps [] w w') (hown : ∀ b tg, b < w.heap.size → tg ≠ (0, 0) → own b = tg → own' b = tg) : WX Q w0 w' own' W ps hs K :=
  h.frame (T := fun _ => False) (Onlys.nil hk) (by simp) (by simp) (by simp) (by simp) (by simp) (by simp) hown h.low.size

set_option maxRecDepth 100000 in
set_option maxHeartbeats 1000000 in
theorem looks_any (h : WX Q w0 w own W ps hs K) (hK : K ≤ 4611686018427387904) : Calls Tryz.prog 10 #[ptr W] w fun e w' => e = .returned (.bool true) ∧ Keeps [] w w' := by
  obtain ⟨hv, q1, q2, q3, q4⟩ := h.c1
  obtain ⟨a, n, cap, hn, rfl, hcells⟩ : ∃ a n cap, n = hs.length ∧ hv = .slice a n cap ∧ (n = 0 ∨ ∃ g, a = some ⟨g, 0, none⟩ ∧ ∀ i, i < n → ∃ x, hs[i]? = some x ∧ w.cell? ⟨g, i, none⟩ = some (.pointer (some ⟨x, 0, none⟩))) := by
    rcases q2.2 with ⟨e, h0⟩ | ⟨g, cap, cur, e, _⟩
    · exact ⟨none, 0, 0, h0.symm, e, Or.inl rfl⟩
    · subst e
      refine ⟨_, hs.length, cap, rfl, rfl, Or.inr ⟨g, rfl, fun i hi => ?_⟩⟩
      refine ⟨hs[i], List.getElem?_eq_getElem hi, ?_⟩
      rw [World.ownsRow.cellAt q2 i (by omega)]
      simp [hi, ptr]
  have hnK : (n : Int) ≤ 4611686018427387904 := by have := h.kh; omega
  have c2 := h.c2
  have HD : Hid (∀ j x, hs[j]? = some x → HoldOk w own (5, j) x) := h.hds
  have HC : Hid (n = 0 ∨ ∃ g, a = some ⟨g, 0, none⟩ ∧ ∀ i, i < n → ∃ x, hs[i]? = some x ∧ w.cell? ⟨g, i, none⟩ = some (.pointer (some ⟨x, 0, none⟩))) := hcells
  clear hcells q2 q3 q4 h hn
  unfold ptr
  go_enter Tryz.func10, Tryz.ntmps10
  go_wp2_with fail
  go_loopw [3] (fun x wr => ∃ j : Nat, j ≤ n ∧ x = .int .i64 j ∧ Keeps [] w wr) (fun x _ => n - (intOf x).toNat)
  case atStart => exact ⟨0, by omega, rfl, Keeps.refl _ _⟩
  case round =>
    obtain ⟨j, hj, rfl, hk⟩ := hrel
    have d1 := hk.cell q1 (by simp)
    by_cases hlt : j < n
    · have hj0 : (0 : Int) ≤ (j : Int) := by omega
      have hj1 : (j : Int) < (n : Int) := by omega
      obtain ⟨g, ea, hc⟩ : ∃ g, a = some ⟨g, 0, none⟩ ∧ ∀ i, i < n → ∃ x, hs[i]? = some x ∧ w.cell? ⟨g, i, none⟩ = some (.pointer (some ⟨x, 0, none⟩)) := by
        rcases HC.out with h | h
        · omega
        · exact h
      subst ea
      obtain ⟨x, hx, hcx⟩ := hc j hlt
      have p1 := hk.cell hcx (by simp)
      have hm := marked_any ((HD.out j x hx).frame (T := fun _ => False) (own' := own) (Onlys.nil hk) (by simp) (fun b _ e => e))
      clear hc hcx hx
      go_wp2_with fail
      refine hm.mono ?_
      rintro e w1 ⟨rfl, hk1⟩
      go_wp2_with fail
      go_roundw
      case rel => exact ⟨j + 1, by omega, by go_num, hk.trans hk1⟩
      case measure => simp [intOf]; omega
    · have hj1 : (n : Int) ≤ (j : Int) := by omega
      have d2 := hk.cell c2 (by simp)
      go_wp2_with fail
      go_ret
      exact ⟨rfl, hk⟩
end

end Go.Proofs.YtmgjegokkbghlaaGreat
