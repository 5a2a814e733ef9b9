/- Lists that are lent: lentTruths, sameTruths; an append that leaves the old list as it was. -/
import Derived.Test.YtmgjegokkbghlaaGreatPairD
import Derived.Deep.AppendLies
import Derived.BigQuiet
namespace Go.Proofs.YtmgjegokkbghlaaGreat
open Go.RowKit Go.Maps Bdd
set_option linter.unusedVariables false
attribute [local go_sem ↓] Go.wp_at_zero Go.wp_at_succ

/-- append: in the old row, where there is room; else all that was there stays as it was -/
theorem run_append_stays {w : World} (base : Nat) (t ty e : TypeId) (i : TypeInfo) (z : Value) (size bytes : Nat) (ht : Tryz.prog.underlying t = some (.slice e)) (hi : Tryz.prog.info? e = some i) (hz : i.zero = some z) (hsize : i.size = size) (hby : i.bytes = bytes) (hzs : z.cells.size = size) (hsz : 0 < size)
    {v : Value} {n : Nat} {xs : List Value} (hown : w.ownsRow base e size v n xs) {a : Addr} {m c : Nat} {news : List Value} (hl : news.length = m * size) (hnews : ∀ j u, news[j]? = some u → w.cell? (a.add j) = some u) (h1 : ∀ u ∈ news, u.oneCell' = true) (hm : 0 < m)
    (h63 : n + m ≤ maxLen) (hbytes : (n + m) * bytes ≤ 140737488355328) (hbase : base ≤ w.heap.size) :
    ∃ g cap w', (Builtin.append_ #[t, t] ty #[v, .slice (some a) m c]).run Tryz.prog w = .ok (.slice (some ⟨g, 0, none⟩) (n + m) cap) w' ∧ w'.ownsRow base e size (.slice (some ⟨g, 0, none⟩) (n + m) cap) (n + m) (xs ++ news) ∧ ((v.ownBlock = some g ∧ w.grownBy w' (some g)) ∨ (g = w.heap.size ∧ w.grownBy w' none)) := by
  obtain ⟨v', w', hr, ho, hg, hn, hat⟩ := run_append_own_at (P := Tryz.prog) w base t ty e i z size bytes ht hi hz hsize hby hzs hsz v n xs hown a m c news hl hnews h1 h63 hbytes hbase
  obtain ⟨g, cap, rfl⟩ : ∃ g cap, v' = .slice (some ⟨g, 0, none⟩) (n + m) cap := by
    rcases ho.2 with ⟨_, h0⟩ | ⟨g, cap, cur, e, _⟩
    · omega
    · exact ⟨g, cap, e⟩
  refine ⟨g, cap, w', hr, ho, ?_⟩
  have eg : (Value.slice (some ⟨g, 0, none⟩) (n + m) cap).ownBlock = some g := rfl
  rw [eg] at hat
  rcases hown.2 with ⟨rfl, rfl⟩ | ⟨g0, cap0, cur, rfl, hbg, hgg, hnc, hcm, hcs, htake⟩
  · rcases hat with e | e
    · cases e
    · exact Or.inr ⟨by simpa using e, hg⟩
  · have eo : (Value.slice (some ⟨g0, 0, none⟩) n cap0).ownBlock = some g0 := rfl
    rw [eo] at hat hg ⊢
    by_cases hroom : n + m ≤ cap0
    · subst hsize
      have hr2 := run_append_room (P := Tryz.prog) w t ty e i ht hi g0 n cap0 cur hgg a m c news hl hnews h1 hroom (by rw [hl, hcs, ← Nat.add_mul]; exact Nat.mul_le_mul_right _ hroom)
      rw [hr2] at hr
      have e1 : g0 = g := by simp at hr; exact hr.1.1
      subst e1
      exact Or.inl ⟨rfl, hg⟩
    · subst hsize
      subst hby
      have hsmall : n + m ≤ 9223372036854775807 := by simp only [maxLen] at h63; omega
      have hr2 := run_append_grow (P := Tryz.prog) w t ty e i z ht hi hz ⟨g0, 0, none⟩ n cap0 xs hown.1 (hown.cells (g := g0) rfl) a m c news hl hnews (by omega) (by omega) (growslice_fits (by omega) hbytes)
      rw [hr2] at hr
      simp only [Result.ok.injEq, Value.slice.injEq, Option.some.injEq, Addr.mk.injEq] at hr
      obtain ⟨⟨⟨e1, _⟩, _⟩, e2⟩ := hr
      refine Or.inr ⟨e1.symm, ?_⟩
      rw [← e2]
      exact ⟨rfl, rfl, rfl, by simp, fun k hk _ => heap_alloc_old w.drew _ k hk⟩

/-- an append, where the walk meets it -/
theorem wpList_append_run {w w' : World} {ops : Array Oper} {rest : List Oper} {o : Oper} {a : Act} {Q : Exit → Act → World → Prop} (hg : o.guard = none) (s x : Operand) (t : TypeId) (hop : o.op = .call { callee := .builtin .append, args := #[s, x], argTypes := #[t, t] }) (v y r : Value) (hs : a.eval s = v) (hx : a.eval x = y) (hrun : (Builtin.append_ #[t, t] o.type #[v, y]).run Tryz.prog w = .ok r w')
    (h : wpList Tryz.prog ops Q rest (a.put o.dst r) w') : wpList Tryz.prog ops Q (o :: rest) a w := by
  refine wpList_plain hg fun K hK' => ?_
  unfold Oper.wp execOp
  simp only [hop, resolve, invoke, builtin, Sem.run_bind, Sem.run_pure, Result.andThen_ok, List.map_toArray, List.map_cons, List.map_nil, hs, hx, hrun]
  exact hK' _ _ h

/-- truth values, as a list has them -/
def rowB (L : Nat) (f : Nat → Bool) : List Value := (List.range L).map fun i => .bool (f i)
theorem rowB_len (L : Nat) (f : Nat → Bool) : (rowB L f).length = L := by simp [rowB]
theorem rowB_get {L : Nat} (f : Nat → Bool) {i : Nat} (hi : i < L) : (rowB L f)[i]? = some (.bool (f i)) := by simp [rowB, hi]
theorem rowB_set {L : Nat} {f f' : Nat → Bool} {j : Nat} {x : Bool} (hx : f' j = x) (hf : ∀ i, i ≠ j → f' i = f i) : (rowB L f).set j (.bool x) = rowB L f' := by
  apply List.ext_getElem?
  intro i
  rw [List.getElem?_set]
  by_cases e : j = i
  · subst e
    by_cases hj : j < L
    · rw [if_pos rfl, if_pos (by rw [rowB_len]; exact hj), rowB_get f' hj, hx]
    · rw [if_pos rfl, if_neg (by rw [rowB_len]; exact hj), List.getElem?_eq_none (by rw [rowB_len]; omega)]
  · rw [if_neg e]
    by_cases hi : i < L
    · rw [rowB_get f hi, rowB_get f' hi, hf i (fun e' => e e'.symm)]
    · rw [List.getElem?_eq_none (by rw [rowB_len]; omega), List.getElem?_eq_none (by rw [rowB_len]; omega)]
theorem rowB_congr {L : Nat} {f g : Nat → Bool} (h : ∀ i, i < L → f i = g i) : rowB L f = rowB L g := by
  unfold rowB
  exact List.map_congr_left (fun i hi => by rw [h i (by simpa using hi)])

/-- a list of truth values that came in -/
def TruthsIn (w : World) (a : Option Addr) (n : Nat) (f : Nat → Bool) : Prop := n = 0 ∨ ∃ vb vo, a = some ⟨vb, vo, none⟩ ∧ ∀ i, i < n → w.cell? ⟨vb, vo + i, none⟩ = some (.bool (f i))
theorem TruthsIn.keeps {w w' : World} {a : Option Addr} {n : Nat} {f : Nat → Bool} (h : TruthsIn w a n f) (hk : Keeps [] w w') : TruthsIn w' a n f := by
  rcases h with h | ⟨vb, vo, e, h⟩
  · exact Or.inl h
  · exact Or.inr ⟨vb, vo, e, fun i hi => hk.cell (h i hi) (by simp)⟩
/-- what is lent -/
def lentF (n : Nat) (f : Nat → Bool) (i : Nat) : Bool := if i < n then f i else i % 2 == 0

theorem make_bools {L : Nat} (hL : L ≤ 281474976710656) : ∀ w : World, (Instr.makeSlice 32 (.int .i64 (L : Int)) (.int .i64 (L : Int))).run Tryz.prog w = .ok (.slice (some ⟨w.heap.size, 0, none⟩) L L) (w.alloc (.cells (fillV (.bool false) L) 4)) := by
  obtain ⟨i, hi, hz0, hz1, hz2⟩ := info_parts info4
  intro w
  have := run_make (P := Tryz.prog) w 32 4 i (.bool false) Tryz.underlying32 hi hz0 .i64 .i64 (L : Int) (L : Int) (by omega) (by omega) (by rw [hz2]; omega) (by omega)
  rw [hz1, Int.toNat_natCast, made_fill _ rfl] at this
  exact this

set_option maxRecDepth 100000 in
set_option maxHeartbeats 1000000 in
theorem lentTruths_any {w : World} {a : Option Addr} {n cap : Nat} {f : Nat → Bool} (hn : n ≤ 140737488351232) (ha : TruthsIn w a n f) :
    Calls Tryz.prog 50 #[.slice a n cap] w fun e w' => ∃ g, e = .returned (.slice (some ⟨g, 0, none⟩) (n + 8) (n + 8)) ∧ w'.ownsRow w.heap.size 4 1 (.slice (some ⟨g, 0, none⟩) (n + 8) (n + 8)) (n + 8) (rowB (n + 8) (lentF n f)) ∧ Keeps [] w w' := by
  have HMB := make_bools (L := n + 8) (by omega)
  have e8 : ((n + 8 : Nat) : Int) = (n : Int) + 8 := by omega
  rw [e8] at HMB
  have HM : Hid (∀ w : World, (Instr.makeSlice 32 (.int .i64 ((n : Int) + 8)) (.int .i64 ((n : Int) + 8))).run Tryz.prog w = .ok (.slice (some ⟨w.heap.size, 0, none⟩) (n + 8) (n + 8)) (w.alloc (.cells (fillV (.bool false) (n + 8)) 4))) := HMB
  have hn1 : (n : Int) ≤ 140737488351232 := by omega
  have HA : Hid (TruthsIn w a n f) := ha
  clear ha HMB
  obtain ⟨Y, hY⟩ : ∃ Y, Y = w.alloc (.cells (fillV (.bool false) (n + 8)) 4) := ⟨_, rfl⟩
  have hkY : Keeps [] w Y := by rw [hY]; exact (Keeps.refl _ _).alloc _
  have hoY : Y.ownsRow w.heap.size 4 1 (.slice (some ⟨w.heap.size, 0, none⟩) (n + 8) (n + 8)) (n + 8) (rowB (n + 8) (fun _ => false)) := by
    rw [hY]
    have := World.ownsRow_lit (e := 4) (size := 1) (base := w.heap.size) w (fillV (.bool false) (n + 8)) (n + 8) (Nat.le_refl _) (by simp only [maxLen]; omega) (by simp [fillV])
    have e : (fillV (.bool false) (n + 8)).toList = rowB (n + 8) (fun _ => false) := by simp [fillV, rowB]
    rw [e] at this
    exact this
  have hlY : w.heap.size + 1 = Y.heap.size := by rw [hY]; simp
  go_enter Tryz.func50, Tryz.ntmps50
  go_wp2_with (first
    | (at_make; refine wpList_make_at rfl _ _ 32 rfl (.int .i64 ((n : Int) + 8)) (.int .i64 ((n : Int) + 8)) _ rfl rfl (HM.out _) ?_)
    | fail)
  rw [← hY]
  clear hY
  go_loopw [4] (fun x wr => ∃ j : Nat, j ≤ n + 8 ∧ x = .int .i64 j ∧ wr.ownsRow w.heap.size 4 1 (.slice (some ⟨w.heap.size, 0, none⟩) (n + 8) (n + 8)) (n + 8) (rowB (n + 8) (fun i => if i < j then lentF n f i else false)) ∧ Keeps [w.heap.size] Y wr) (fun x _ => n + 8 - (intOf x).toNat)
  case atStart =>
    refine ⟨0, by omega, rfl, ?_, Keeps.refl _ _⟩
    have e : rowB (n + 8) (fun i => if i < 0 then lentF n f i else false) = rowB (n + 8) (fun _ => false) := rowB_congr (fun i _ => by simp)
    rw [e]
    exact hoY
  case round =>
    obtain ⟨j, hj, rfl, hown, hk⟩ := hrel
    by_cases hlt : j < n + 8
    · have hj0 : (0 : Int) ≤ (j : Int) := by omega
      have hj1 : (j : Int) < (n : Int) + 8 := by omega
      have p1 : wr.cell? ⟨w.heap.size, j, none⟩ = some (.bool false) := by
        rw [World.ownsRow.cellAt hown j (by omega), rowB_get _ hlt]; simp
      have p2 := World.ownsRow.frozenAt hown j
      have hs1 := (World.ownsRow.stored hown j (.bool (j % 2 == 0))).1
      have hmod : ((j : Int).tmod 2 == 0) = (j % 2 == 0) := by
        rw [Int.tmod_eq_emod_of_nonneg hj0]
        have : ((j : Int) % 2 == 0) = (j % 2 == 0) := by
          by_cases e : j % 2 = 0
          · have : (j : Int) % 2 = 0 := by omega
            simp [e, this]
          · have h1 : (j % 2 == 0) = false := by simpa using e
            have h2 : ((j : Int) % 2 == 0) = false := by simp; omega
            rw [h1, h2]
        exact this
      have hmod2 : ((j : Int) % 2 == 0) = (j % 2 == 0) := by
        rw [← hmod, Int.tmod_eq_emod_of_nonneg hj0]
      have HMOD : Hid (((j : Int) % 2 == 0) = (j % 2 == 0)) := hmod2
      clear hmod hmod2
      by_cases hja : j < n
      · have hja1 : (j : Int) < (n : Int) := by omega
        obtain ⟨vb, vo, ea, hv⟩ : ∃ vb vo, a = some ⟨vb, vo, none⟩ ∧ ∀ i, i < n → w.cell? ⟨vb, vo + i, none⟩ = some (.bool (f i)) := by
          rcases HA.out with h | h
          · omega
          · exact h
        subst ea
        have hvl : vb < w.heap.size := cell_lt (hv j hja)
        have p3 := hk.cell (hkY.cell (hv j hja) (by simp)) (by simp; omega)
        have p4 : (wr.setCell ⟨w.heap.size, j, none⟩ (.bool (j % 2 == 0))).cell? ⟨vb, vo + j, none⟩ = some (.bool (f j)) := by
          rw [World.cell?_setCell_far _ _ _ _ (by simp; omega)]
          exact p3
        have p5 : (wr.setCell ⟨w.heap.size, j, none⟩ (.bool (j % 2 == 0))).cell? ⟨w.heap.size, j, none⟩ = some (.bool (j % 2 == 0)) := World.cell?_setCell_same _ _ _ p1
        have p6 := World.ownsRow.frozenAt hs1 j
        have hs2 := (World.ownsRow.stored hs1 j (.bool (f j))).1
        rw [rowB_set (f' := fun i => if i = j then (j % 2 == 0) else if i < j then lentF n f i else false) (by simp) (fun i hi => by simp [hi]), rowB_set (f' := fun i => if i < j + 1 then lentF n f i else false) (by simp [lentF, hja]) (fun i hi => by
          by_cases e : i < j
          · simp [e, hi]; omega
          · have : ¬ i < j + 1 := by omega
            simp [e, hi, this])] at hs2
        obtain ⟨fj, hfj⟩ : ∃ fj, fj = f j := ⟨_, rfl⟩
        rw [← hfj] at p3 p4 hs2
        obtain ⟨bj, hbj⟩ : ∃ bj, bj = (j % 2 == 0) := ⟨_, rfl⟩
        rw [← hbj] at p4 p5 p6 hs2 HMOD
        have HM2 : ((j : Int) % 2 == 0) = bj := HMOD.out
        have HS : Hid (((wr.setCell ⟨w.heap.size, j, none⟩ (.bool bj)).setCell ⟨w.heap.size, j, none⟩ (.bool fj)).ownsRow w.heap.size 4 1 (.slice (some ⟨w.heap.size, 0, none⟩) (n + 8) (n + 8)) (n + 8) (rowB (n + 8) (fun i => if i < j + 1 then lentF n f i else false))) := hs2
        clear hs1 hs2 hown hfj hbj hv
        go_wp2_with fail
        go_roundw
        case rel =>
          exact ⟨j + 1, by omega, by go_num, HS.out, (hk.setCell _ (Or.inl (by simp)) _).setCell _ (Or.inl (by simp)) _⟩
        case measure => simp [intOf]; omega
      · have hja1 : (n : Int) ≤ (j : Int) := by omega
        rw [rowB_set (f' := fun i => if i < j + 1 then lentF n f i else false) (by simp [lentF, hja]) (fun i hi => by
          by_cases e : i < j
          · simp [e]; omega
          · have : ¬ i < j + 1 := by omega
            simp [e, this])] at hs1
        obtain ⟨bj, hbj⟩ : ∃ bj, bj = (j % 2 == 0) := ⟨_, rfl⟩
        rw [← hbj] at hs1 HMOD
        have HM2 : ((j : Int) % 2 == 0) = bj := HMOD.out
        have HS : Hid ((wr.setCell ⟨w.heap.size, j, none⟩ (.bool bj)).ownsRow w.heap.size 4 1 (.slice (some ⟨w.heap.size, 0, none⟩) (n + 8) (n + 8)) (n + 8) (rowB (n + 8) (fun i => if i < j + 1 then lentF n f i else false))) := hs1
        clear hs1 hown hbj
        go_wp2_with fail
        go_roundw
        case rel =>
          exact ⟨j + 1, by omega, by go_num, HS.out, hk.setCell _ (Or.inl (by simp)) _⟩
        case measure => simp [intOf]; omega
    · have e : j = n + 8 := by omega
      have hj1 : (n : Int) + 8 ≤ (j : Int) := by omega
      have HO : Hid (wr.ownsRow w.heap.size 4 1 (.slice (some ⟨w.heap.size, 0, none⟩) (n + 8) (n + 8)) (n + 8) (rowB (n + 8) (lentF n f))) := by
        have e2 : rowB (n + 8) (fun i => if i < j then lentF n f i else false) = rowB (n + 8) (lentF n f) := rowB_congr (fun i hi => by rw [if_pos (by omega)])
        rw [← e2]
        exact hown
      clear hown
      go_wp2_with fail
      go_ret
      exact ⟨_, rfl, HO.out, ((hkY.mono (by simp)).trans hk).strike (by simp)⟩

set_option maxRecDepth 100000 in
set_option maxHeartbeats 1000000 in
theorem sameTruths_any {w : World} {n g g' cap cap' : Nat} {f : Nat → Bool} (hn : n ≤ 4611686018427387904) (h1 : ∀ i, i < n → w.cell? ⟨g, i, none⟩ = some (.bool (f i))) (h2 : ∀ i, i < n → w.cell? ⟨g', i, none⟩ = some (.bool (f i))) :
    Calls Tryz.prog 52 #[.slice (some ⟨g, 0, none⟩) n cap, .slice (some ⟨g', 0, none⟩) n cap'] w fun e w' => e = .returned (.bool true) ∧ Keeps [] w w' := by
  have hn1 : (n : Int) ≤ 4611686018427387904 := by omega
  go_enter Tryz.func52, Tryz.ntmps52
  go_wp2_with fail
  go_loopw [5] (fun x wr => ∃ j : Nat, j ≤ n ∧ x = .int .i64 j ∧ Keeps [] w wr) (fun x _ => n - (intOf x).toNat)
  case atStart => exact ⟨0, by omega, rfl, Keeps.refl _ _⟩
  case round =>
    obtain ⟨j, hj, rfl, hk⟩ := hrel
    by_cases hlt : j < n
    · have hj0 : (0 : Int) ≤ (j : Int) := by omega
      have hj1 : (j : Int) < (n : Int) := by omega
      have p1 := hk.cell (h1 j hlt) (by simp)
      have p2 := hk.cell (h2 j hlt) (by simp)
      obtain ⟨b, hb⟩ : ∃ b, b = f j := ⟨_, rfl⟩
      rw [← hb] at p1 p2
      clear hb
      go_wp2_with fail
      go_quiet (fail)
      go_wp2_with fail
      go_roundw
      case rel => exact ⟨j + 1, by omega, by go_num, hk.drewN _⟩
      case measure => simp [intOf]; omega
    · have e : (n : Int) ≤ (j : Int) := by omega
      go_wp2_with fail
      go_ret
      exact ⟨rfl, hk⟩

end Go.Proofs.YtmgjegokkbghlaaGreat
