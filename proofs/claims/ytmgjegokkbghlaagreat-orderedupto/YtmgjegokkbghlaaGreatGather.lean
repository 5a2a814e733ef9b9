/- The walk of Gather. -/
import Derived.Test.YtmgjegokkbghlaaGreatChooseRec
namespace Go.Proofs.YtmgjegokkbghlaaGreat
open Go.RowKit Go.Maps Bdd

/-- a set of numbers, as a map holds it -/
def setV (K : Int → Bool) : Value → Option Value
  | .int .i64 f => if K f then some (.agg #[]) else none
  | _ => none
def addK (K : Int → Bool) (f : Int) : Int → Bool := fun x => if x = f then true else K x
theorem setV_add (K : Int → Bool) (f : Int) (v : Value) : setG (setV K) (.int .i64 f) (some (.agg #[])) v = setV (addK K f) v := by
  by_cases e : v = .int .i64 f
  · subst e; rw [setG_same]; simp [setV, addK]
  · rw [setG_other _ _ e]
    unfold setV
    split
    · rename_i x
      have : x ≠ f := fun ex => e (by rw [ex])
      simp [addK, this]
    · rfl
theorem zeroUnit (w : World) : (zeroValue 145).run Tryz.prog w = .ok (.agg #[]) w := by kernel_rfl

def GatherSaid (k : Nat) : Prop := ∀ (w : World) (t bn bm bs sz ns : Nat) (N : Tab) (top last : Int) (K : Int → Bool) (l f : Int),
  TabAt w t bn bm sz N top last → MapIs w Tryz.prog 95 bs ns (setV K) → bs ≠ bn → bs ≠ bm → top - l ≤ k → Ok N l f → ns + pw k < maxLen →
  Calls Tryz.prog 91 #[.pointer (some ⟨t, 0, none⟩), .int .i64 f, .map (some bs)] w fun e w' => ∃ K' ns', e = .returned (.tuple #[]) ∧ MapIs w' Tryz.prog 95 bs ns' (setV K') ∧ (∀ x, K x = true → K' x = true) ∧ (∀ x, K' x = true → K x = true ∨ Rch N f x) ∧
    (∀ n, N f = some n → K' f = true) ∧ (∀ x n, K' x = true → K x = false → N x = some n → (∀ m, N n.lo = some m → K' n.lo = true) ∧ (∀ m, N n.hi = some m → K' n.hi = true)) ∧ ns' + 1 ≤ ns + pw k ∧ Keeps [bs] w w'

set_option maxRecDepth 100000 in
set_option maxHeartbeats 400000 in
theorem gather_none {w : World} {t bn bm bs sz : Nat} {N : Tab} {top last : Int} {f : Int} (h : TabAt w t bn bm sz N top last) (hf : Fits f) (hN : N f = none) :
    Calls Tryz.prog 91 #[.pointer (some ⟨t, 0, none⟩), .int .i64 f, .map (some bs)] w fun e w' => e = .returned (.tuple #[]) ∧ Keeps [] w w' := by
  have c1 := h.c1
  have hrun := (h.nodes.look lawFn Tryz.underlying94 (zeroNode _) (keyFn hf)).1
  have hG : nodesG N (.int .i64 f) = none := by simp [nodesG, hN]
  rw [hG] at hrun
  simp only [Option.getD_none, Option.isSome_none] at hrun
  clear hG hN
  go_enter Tryz.func91, Tryz.ntmps91
  go_wp2_with fail
  (try simp only [Exit.inBlock, Exit.then])
  refine bodyPost_ret (results_none rfl _ _ _) rfl ?_
  exact ⟨rfl, (Keeps.refl _ _).alloc _⟩

set_option maxRecDepth 100000 in
set_option maxHeartbeats 400000 in
theorem gather_there {w : World} {t bn bm bs sz ns : Nat} {N : Tab} {top last : Int} {f : Int} {nd : Nd} {K : Int → Bool} (h : TabAt w t bn bm sz N top last) (hs : MapIs w Tryz.prog 95 bs ns (setV K)) (hf : Fits f) (hN : N f = some nd) (hK : K f = true) :
    Calls Tryz.prog 91 #[.pointer (some ⟨t, 0, none⟩), .int .i64 f, .map (some bs)] w fun e w' => e = .returned (.tuple #[]) ∧ Keeps [] w w' := by
  have c1 := h.c1
  have hrun := (h.nodes.look lawFn Tryz.underlying94 (zeroNode _) (keyFn hf)).1
  have hG : nodesG N (.int .i64 f) = some (nodeV nd) := by simp [nodesG, hN]
  rw [hG] at hrun
  have hrun2 : ∀ o, (Instr.lookup 119 (.map (some bs)) (.int .i64 f) true).run Tryz.prog (w.alloc o) = .ok (.tuple #[.agg #[], .bool true]) (w.alloc o) := by
    intro o
    have := ((hs.alloc o).look lawFn Tryz.underlying119 (zeroUnit _) (keyFn hf)).1
    have hG2 : setV K (.int .i64 f) = some (.agg #[]) := by simp [setV, hK]
    rw [hG2] at this
    exact this
  simp only [Option.getD_some, Option.isSome_some, nodeV, trip] at hrun
  clear hG hN hK
  go_enter Tryz.func91, Tryz.ntmps91
  go_wp2_with fail
  (try simp only [Exit.inBlock, Exit.then])
  refine bodyPost_ret (results_none rfl _ _ _) rfl ?_
  exact ⟨rfl, ((Keeps.refl _ _).alloc _).alloc _⟩

set_option maxRecDepth 100000 in
set_option maxHeartbeats 400000 in
theorem gather_rec (k : Nat) (IH : GatherSaid k) {w : World} {t bn bm bs sz ns : Nat} {N : Tab} {top last : Int} {f : Int} {nd : Nd} {K : Int → Bool} (h : TabAt w t bn bm sz N top last) (hs : MapIs w Tryz.prog 95 bs ns (setV K)) (h1 : bs ≠ bn) (h2 : bs ≠ bm) (hN : N f = some nd) (hK : K f = false)
    (hk : top - nd.lv ≤ (k + 1 : Nat)) (hns : ns + pw (k + 1) < maxLen) :
    Calls Tryz.prog 91 #[.pointer (some ⟨t, 0, none⟩), .int .i64 f, .map (some bs)] w fun e w' => ∃ K' ns', e = .returned (.tuple #[]) ∧ MapIs w' Tryz.prog 95 bs ns' (setV K') ∧ (∀ x, K x = true → K' x = true) ∧ (∀ x, K' x = true → K x = true ∨ Rch N f x) ∧
    (∀ n, N f = some n → K' f = true) ∧ (∀ x n, K' x = true → K x = false → N x = some n → (∀ m, N n.lo = some m → K' n.lo = true) ∧ (∀ m, N n.hi = some m → K' n.hi = true)) ∧ ns' + 1 ≤ ns + pw (k + 1) ∧ Keeps [bs] w w' := by
  have hpp : pw (k + 1) = 2 * pw k := rfl
  rw [hpp] at hns ⊢
  clear hpp
  have hp1 := pw_pos k
  have hf : Fits f := h.fits (ok_node hN)
  have c1 := h.c1
  have hrun := (h.nodes.look lawFn Tryz.underlying94 (zeroNode _) (keyFn hf)).1
  have hG : nodesG N (.int .i64 f) = some (nodeV nd) := by simp [nodesG, hN]
  rw [hG] at hrun
  have hG2 : setV K (.int .i64 f) = none := by simp [setV, hK]
  have hrun2 : ∀ o, (Instr.lookup 119 (.map (some bs)) (.int .i64 f) true).run Tryz.prog (w.alloc o) = .ok (.tuple #[.agg #[], .bool false]) (w.alloc o) := by
    intro o
    have := ((hs.alloc o).look lawFn Tryz.underlying119 (zeroUnit _) (keyFn hf)).1
    rw [hG2] at this
    exact this
  have HN : Hid (N f = some nd) := hN
  have HK : Hid (K f = false) := hK
  have HG2 : Hid (setV K (.int .i64 f) = none) := hG2
  have hns1 : ns < maxLen := by omega
  simp only [Option.getD_some, Option.isSome_some, nodeV, trip] at hrun
  clear hG hN hK hG2
  have htb : t ≠ bs := hs.ne_cell h.c0
  have hlb := hs.lt
  have hlo := h.wf.lo f nd HN.out
  have hhi := h.wf.hi f nd HN.out
  go_enter Tryz.func91, Tryz.ntmps91
  go_wp2_with (first
    | (at_mapUpdate; refine wpList_store _ rfl _ _ _ 119 rfl 95 145 lawFn Tryz.underlying119 bs ns (setV K) rfl ((hs.alloc _).alloc _) hns1 (.int .i64 f) (.agg #[]) (.int .i64 f) rfl rfl (keyFn hf) ?_; intro w1 hm1 hg1; have x1 : w1.cell? ⟨w.heap.size, 1, none⟩ = some (.int .i64 nd.lo) := hg1.cell (a := ⟨w.heap.size, 1, none⟩) (by simp) (by simp; omega); have x2 : w1.cell? ⟨w.heap.size, 2, none⟩ = some (.int .i64 nd.hi) := hg1.cell (a := ⟨w.heap.size, 2, none⟩) (by simp) (by simp; omega))
    | fail)
  have hk1 : Keeps [bs] w w1 := (((Keeps.refl [bs] w).alloc _).alloc _).grown hg1 (by simp)
  have hT1 := h.keeps hk1 (by simp [htb]) (by simp; exact fun e => h1 e.symm) (by simp; exact fun e => h2 e.symm)
  have hm1' : MapIs w1 Tryz.prog 95 bs (ns + 1) (setV (addK K f)) := by
    rw [HG2.out] at hm1
    exact hm1.congr (fun v _ _ => setV_add K f v)
  refine (IH w1 t bn bm bs sz (ns + 1) N top last (addK K f) (nd.lv + 1) nd.lo hT1 hm1' h1 h2 (by omega) hlo (by omega)).mono ?_
  rintro e w2 ⟨K1, ns1, rfl, hm2, a1, a2, a3, a4, a5, hk2⟩
  have x2' := hk2.cell x2 (by simp; omega)
  clear x1 x2
  go_wp2_with fail
  refine (IH w2 t bn bm bs sz ns1 N top last K1 (nd.lv + 1) nd.hi (hT1.keeps hk2 (by simp [htb]) (by simp; exact fun e => h1 e.symm) (by simp; exact fun e => h2 e.symm)) hm2 h1 h2 (by omega) hhi (by omega)).mono ?_
  rintro e w3 ⟨K2, ns2, rfl, hm3, b1, b2, b3, b4, b5, hk3⟩
  go_wp2_with fail
  go_end0
  have HNN := HN.out
  refine ⟨K2, ns2, rfl, hm3, ?_, ?_, ?_, ?_, by omega, (hk1.trans hk2).trans hk3⟩
  · intro x hx
    exact b1 x (a1 x (by unfold addK; split <;> simp [hx]))
  · intro x hx
    rcases b2 x hx with hx | hx
    · rcases a2 x hx with hx | hx
      · unfold addK at hx
        split at hx
        · rename_i e; subst e; exact Or.inr (Rch.self HNN)
        · exact Or.inl hx
      · exact Or.inr (Rch.lo HNN hx)
    · exact Or.inr (Rch.hi HNN hx)
  · intro n _
    exact b1 f (a1 f (by simp [addK]))
  · intro x n hx hKx hn
    by_cases e : x = f
    · subst e
      rw [HNN] at hn
      cases hn
      exact ⟨fun m hm => b1 _ (a3 m hm), fun m hm => b3 m hm⟩
    · cases hx1 : K1 x with
      | false => exact b4 x n hx hx1 hn
      | true =>
        have hadd : addK K f x = false := by simp [addK, e, hKx]
        obtain ⟨q1, q2⟩ := a4 x n hx1 hadd hn
        exact ⟨fun m hm => b1 _ (q1 m hm), fun m hm => b1 _ (q2 m hm)⟩

theorem gather_any : ∀ k, GatherSaid k := by
  intro k
  induction k with
  | zero =>
    intro w t bn bm bs sz ns N top last K l f hT hs h1 h2 hk hf hns
    have hN : N f = none := by
      cases hN : N f with
      | none => rfl
      | some n =>
        rcases hf with e | e | ⟨m, hm, hl⟩
        · rw [hT.wf.none_of (Or.inl e)] at hN; cases hN
        · rw [hT.wf.none_of (Or.inr e)] at hN; cases hN
        · have := hT.wf.lv f m hm; omega
    refine (gather_none hT (hT.fits hf) hN).mono ?_
    rintro e w' ⟨rfl, hk'⟩
    exact ⟨K, ns, rfl, hs.keeps hk' (by simp), fun _ h => h, fun _ h => Or.inl h, fun n hn => (by rw [hN] at hn; cases hn), fun x n hx hx' _ => (by rw [hx] at hx'; cases hx'), by simp [pw], hk'.mono (by simp)⟩
  | succ k IH =>
    intro w t bn bm bs sz ns N top last K l f hT hs h1 h2 hk hf hns
    have hpp := pw_pos (k + 1)
    cases hN : N f with
    | none =>
      refine (gather_none hT (hT.fits hf) hN).mono ?_
      rintro e w' ⟨rfl, hk'⟩
      exact ⟨K, ns, rfl, hs.keeps hk' (by simp), fun _ h => h, fun _ h => Or.inl h, fun n hn => (by cases hn), fun x n hx hx' _ => (by rw [hx] at hx'; cases hx'), by omega, hk'.mono (by simp)⟩
    | some nd =>
      have hlv : l ≤ nd.lv := by
        rcases hf with e | e | ⟨m, hm, hl⟩
        · rw [hT.wf.none_of (Or.inl e)] at hN; cases hN
        · rw [hT.wf.none_of (Or.inr e)] at hN; cases hN
        · rw [hN] at hm; cases hm; exact hl
      cases hK : K f with
      | true =>
        refine (gather_there hT hs (hT.fits hf) hN hK).mono ?_
        rintro e w' ⟨rfl, hk'⟩
        exact ⟨K, ns, rfl, hs.keeps hk' (by simp), fun _ h => h, fun _ h => Or.inl h, fun n hn => hK, fun x n hx hx' _ => (by rw [hx] at hx'; cases hx'), by omega, hk'.mono (by simp)⟩
      | false =>
        refine (gather_rec k IH hT hs h1 h2 hN hK (by omega) hns).mono ?_
        rintro e w' ⟨K', ns', rfl, q1, q2, q3, q4, q5, q6, q7⟩
        exact ⟨K', ns', rfl, q1, q2, q3, fun n hn => q4 nd hN, q5, q6, q7⟩

end Go.Proofs.YtmgjegokkbghlaaGreat
