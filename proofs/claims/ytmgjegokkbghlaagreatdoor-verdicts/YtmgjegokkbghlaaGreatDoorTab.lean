/-
  A table of nodes in memory: two maps and a number. The first walks over it: level, branches.
-/
import Derived.Test.YtmgjegokkbghlaaGreatDoorRows
import Derived.Test.YtmgjegokkbghlaaGreatDoorBdd
import Derived.Test.YtmgjegokkbghlaaGreatDoorHeap
import Derived.WalkKit
import Derived.WalkSpells
import Derived.DeepKeys4
import Derived.Deep.QuietTactic
import Derived.BigQuiet
namespace Go.Proofs.YtmgjegokkbghlaaGreatDoor
open Go.RowKit Go.Maps Bdd

theorem laidOut : laidOutB Tryz.prog = true := by kernel_rfl
theorem lawFn : Keyed Tryz.prog 88 := int_keyed Tryz.underlying88
theorem row130 : (157 : TypeId) < Tryz.prog.types.size := of_decide_eq_true (by kernel_rfl)
theorem lawNode : Keyed Tryz.prog 157 := Keyed.of_law (deep_law_laid laidOut (m := 2) (by omega) row130 (by kernel_rfl) (by rw [Tryz.underlying157]))
theorem row133 : (160 : TypeId) < Tryz.prog.types.size := of_decide_eq_true (by kernel_rfl)
theorem lawChoice : Keyed Tryz.prog 160 := Keyed.of_law (deep_law_laid laidOut (m := 2) (by omega) row133 (by kernel_rfl) (by rw [Tryz.underlying160]))
theorem zeroNode (w : World) : (zeroValue 157).run Tryz.prog w = .ok (.agg #[.int .i64 0, .int .i64 0, .int .i64 0]) w := by kernel_rfl
theorem zeroFn (w : World) : (zeroValue 88).run Tryz.prog w = .ok (.int .i64 0) w := by kernel_rfl

/-- a number that an int holds -/
def Fits (x : Int) : Prop := -9223372036854775808 ≤ x ∧ x ≤ 9223372036854775807
theorem Fits.wf {x : Int} (h : Fits x) : (Lit.int .i64 x).wf = true := WalkArith.wf_i64 (by unfold Fits at h; omega)
theorem keyFn {f : Int} (h : Fits f) : keyOf Tryz.prog 88 (.int .i64 f) = some (.int .i64 f) := keyOf_int_mk Tryz.underlying88 h.wf

theorem cells130 : Tryz.prog.cellsOf 157 = 3 := by kernel_rfl
theorem cells69 : Tryz.prog.cellsOf 88 = 1 := by kernel_rfl
theorem cells3 : Tryz.prog.cellsOf 3 = 1 := by kernel_rfl
theorem cells133 : Tryz.prog.cellsOf 160 = 3 := by kernel_rfl
def trip (a b c : Int) : Value := .agg #[.int .i64 a, .int .i64 b, .int .i64 c]
theorem lits69 (d : Nat) {x : Int} (h : Fits x) : Tryz.prog.keyLits (d + 1) 88 [.int .i64 x] = some [.int .i64 x] := by
  unfold Program.keyLits
  simp [Tryz.underlying88, h.wf]
theorem lits3 (d : Nat) {x : Int} (h : Fits x) : Tryz.prog.keyLits (d + 1) 3 [.int .i64 x] = some [.int .i64 x] := by
  unfold Program.keyLits
  simp [Tryz.underlying3, h.wf]
theorem key130 {a b c : Int} (ha : Fits a) (hb : Fits b) (hc : Fits c) : ∃ kl, keyOf Tryz.prog 157 (trip a b c) = some kl := by
  have e : Tryz.prog.keyType 157 = true := by kernel_rfl
  have f : (trip a b c).formed Tryz.prog 157 = true := by simp [trip, Value.formed, Tryz.underlying157, cells130]
  have g : Tryz.prog.keyLits (298 + 1 + 1) 157 (trip a b c).cells.toList = some [.int .i64 a, .int .i64 b, .int .i64 c] := by
    rw [Program.keyLits.eq_def]
    simp [trip, Value.cells, Tryz.underlying157, cells130, cells69, cells3, lits69 298 hb, lits69 298 hc, lits3 298 ha]
  have e2 : Tryz.prog.types.size + 1 = 298 + 1 + 1 := by kernel_rfl
  exact ⟨_, by simp only [keyOf, Tryz.underlying157, e, f, e2, g]; rfl⟩
theorem key133 {a b c : Int} (ha : Fits a) (hb : Fits b) (hc : Fits c) : ∃ kl, keyOf Tryz.prog 160 (trip a b c) = some kl := by
  have e : Tryz.prog.keyType 160 = true := by kernel_rfl
  have f : (trip a b c).formed Tryz.prog 160 = true := by simp [trip, Value.formed, Tryz.underlying160, cells133]
  have g : Tryz.prog.keyLits (298 + 1 + 1) 160 (trip a b c).cells.toList = some [.int .i64 a, .int .i64 b, .int .i64 c] := by
    rw [Program.keyLits.eq_def]
    simp [trip, Value.cells, Tryz.underlying160, cells133, cells69, lits69 298 hb, lits69 298 hc, lits69 298 ha]
  have e2 : Tryz.prog.types.size + 1 = 298 + 1 + 1 := by kernel_rfl
  exact ⟨_, by simp only [keyOf, Tryz.underlying160, e, f, e2, g]; rfl⟩
theorem trip_inj {a b c a' b' c' : Int} (h : trip a b c = trip a' b' c') : a = a' ∧ b = b' ∧ c = c' := by
  simpa [trip] using h

/-! ### the table -/
def nodeV (n : Nd) : Value := trip n.lv n.lo n.hi
theorem nodeV_inj {n m : Nd} (h : nodeV n = nodeV m) : n = m := by
  obtain ⟨a, b, c⟩ := trip_inj h
  cases n; cases m; simp_all
def nodesG (N : Tab) : Value → Option Value
  | .int .i64 f => (N f).map nodeV
  | _ => none
open Classical in
noncomputable def namesG (N : Tab) (v : Value) : Option Value :=
  if h : ∃ f n, N f = some n ∧ v = nodeV n then some (.int .i64 h.choose) else none
theorem namesG_some {N : Tab} {top last : Int} (hw : Wf N top last) {f : Int} {n : Nd} (h : N f = some n) : namesG N (nodeV n) = some (.int .i64 f) := by
  have hex : ∃ f' n', N f' = some n' ∧ nodeV n = nodeV n' := ⟨f, n, h, rfl⟩
  unfold namesG
  rw [dif_pos hex]
  obtain ⟨n', h1, h2⟩ := hex.choose_spec
  have := nodeV_inj h2
  subst this
  rw [hw.uniq _ f n h1 h]
theorem namesG_none {N : Tab} {n : Nd} (h : ∀ f, N f ≠ some n) : namesG N (nodeV n) = none := by
  unfold namesG
  rw [dif_neg]
  rintro ⟨f, n', h1, h2⟩
  have := nodeV_inj h2
  subst this
  exact h f h1

/-- THE TABLE at block t: its two maps at bn (names) and bm (nodes), sz nodes, the last number given. -/
structure TabAt (w : World) (t bn bm sz : Nat) (N : Tab) (top last : Int) : Prop where
  wf : Wf N top last
  c0 : w.cell? ⟨t, 0, none⟩ = some (.map (some bn))
  c1 : w.cell? ⟨t, 1, none⟩ = some (.map (some bm))
  c2 : w.cell? ⟨t, 2, none⟩ = some (.int .i64 last)
  f2 : w.frozen? ⟨t, 2, none⟩ = false
  names : MapIs w Tryz.prog 157 bn sz (namesG N)
  nodes : MapIs w Tryz.prog 88 bm sz (nodesG N)
  ne : bn ≠ bm
  big : last ≤ 4611686018427387904

theorem TabAt.fits {w : World} {t bn bm sz : Nat} {N : Tab} {top last : Int} (h : TabAt w t bn bm sz N top last) {l f : Int} (hf : Ok N l f) : Fits f := by
  have := h.big
  have := h.wf.one
  rcases hf with rfl | rfl | ⟨n, hn, _⟩
  · unfold Fits; omega
  · unfold Fits; omega
  · have := h.wf.range f n hn
    unfold Fits; omega

theorem cell_lt {w : World} {p : Addr} {v : Value} (hc : w.cell? p = some v) : p.block < w.heap.size := by
  rcases Nat.lt_or_ge p.block w.heap.size with h1 | h1
  · exact h1
  · simp [World.cell?, Array.getElem?_eq_none h1] at hc

theorem TabAt.keeps {w w' : World} {t bn bm sz : Nat} {N : Tab} {top last : Int} {S : List Nat} (h : TabAt w t bn bm sz N top last) (hk : Keeps S w w') (h1 : t ∉ S) (h2 : bn ∉ S) (h3 : bm ∉ S) : TabAt w' t bn bm sz N top last :=
  ⟨h.wf, hk.cell h.c0 h1, hk.cell h.c1 h1, hk.cell h.c2 h1, (hk.frozen (cell_lt h.c2) h1).trans h.f2, h.names.keeps hk h2, h.nodes.keeps hk h3, h.ne, h.big⟩
theorem TabAt.grow {w w' : World} {t bn bm sz : Nat} {N : Tab} {top last : Int} (h : TabAt w t bn bm sz N top last) (hk : Keeps [] w w') : TabAt w' t bn bm sz N top last :=
  h.keeps hk (by simp) (by simp) (by simp)

/-- a table of which only some nodes are looked at, in levels of their own -/
structure TabR (w : World) (t bn bm sz : Nat) (N : Tab) (top last : Int) : Prop where
  wf : Wf N top last
  more : ∃ N' top' last', TabAt w t bn bm sz N' top' last' ∧ Sub N N'
section
variable {w w' : World} {t bn bm sz : Nat} {N : Tab} {top last : Int}
theorem TabAt.r (h : TabAt w t bn bm sz N top last) : TabR w t bn bm sz N top last := ⟨h.wf, N, top, last, h, Sub.refl _⟩
theorem TabR.c0 (h : TabR w t bn bm sz N top last) : w.cell? ⟨t, 0, none⟩ = some (.map (some bn)) := by obtain ⟨_, _, _, h, _⟩ := h.more; exact h.c0
theorem TabR.c1 (h : TabR w t bn bm sz N top last) : w.cell? ⟨t, 1, none⟩ = some (.map (some bm)) := by obtain ⟨_, _, _, h, _⟩ := h.more; exact h.c1
theorem TabR.ltn (h : TabR w t bn bm sz N top last) : bn < w.heap.size := by obtain ⟨_, _, _, h, _⟩ := h.more; exact h.names.lt
theorem TabR.ltm (h : TabR w t bn bm sz N top last) : bm < w.heap.size := by obtain ⟨_, _, _, h, _⟩ := h.more; exact h.nodes.lt
theorem TabR.fits (h : TabR w t bn bm sz N top last) {l f : Int} (hf : Ok N l f) : Fits f := by obtain ⟨_, _, _, h, hs⟩ := h.more; exact h.fits (hf.sub hs)
theorem TabR.keeps {S : List Nat} (h : TabR w t bn bm sz N top last) (hk : Keeps S w w') (h1 : t ∉ S) (h2 : bn ∉ S) (h3 : bm ∉ S) : TabR w' t bn bm sz N top last := by
  obtain ⟨N', top', last', h', hs⟩ := h.more
  exact ⟨h.wf, N', top', last', h'.keeps hk h1 h2 h3, hs⟩
theorem TabR.grow (h : TabR w t bn bm sz N top last) (hk : Keeps [] w w') : TabR w' t bn bm sz N top last := h.keeps hk (by simp) (by simp) (by simp)
theorem TabR.run (h : TabR w t bn bm sz N top last) {f : Int} {n : Nd} (hN : N f = some n) : (Instr.lookup 151 (.map (some bm)) (.int .i64 f) false).run Tryz.prog w = .ok (.agg #[.int .i64 n.lv, .int .i64 n.lo, .int .i64 n.hi]) w := by
  have hf := h.fits (ok_node hN)
  obtain ⟨N', top', last', h', hs⟩ := h.more
  have hG : nodesG N' (.int .i64 f) = some (nodeV n) := by simp [nodesG, hs f n hN]
  have := (h'.nodes.look lawFn Tryz.underlying151 (zeroNode _) (keyFn hf)).2
  rw [hG] at this
  exact this
end

/-- the level of a function's first node; of a constant: behind all -/
def lvl (N : Tab) (f : Int) : Int := match N f with | some n => n.lv | none => 9223372036854775807

set_option maxRecDepth 100000 in
set_option maxHeartbeats 400000 in
theorem level_any {w : World} {t bn bm sz : Nat} {N : Tab} {top last : Int} (h : TabAt w t bn bm sz N top last) {f : Int} (hf : Fits f) :
    Calls Tryz.prog 132 #[.pointer (some ⟨t, 0, none⟩), .int .i64 f] w fun e w' => e = .returned (.int .i64 (lvl N f)) ∧ Keeps [] w w' := by
  have c1 := h.c1
  have hown := h.nodes
  have hkey := keyFn hf
  cases hN : N f with
  | none =>
    have hG : nodesG N (.int .i64 f) = none := by simp [nodesG, hN]
    have hl : lvl N f = 9223372036854775807 := by simp [lvl, hN]
    rw [hl]
    clear hl hN
    go_enter Tryz.func132, Tryz.ntmps132
    go_wp2_with (first
      | (at_lookup; refine wpList_look_ok _ rfl _ _ 151 rfl 88 157 lawFn Tryz.underlying151 (zeroNode _) bm sz (nodesG N) rfl hown (.int .i64 f) _ rfl hkey ?_; rw [hG])
      | go_in)
    go_ret
    exact ⟨rfl, (Keeps.refl _ _).alloc _⟩
  | some n =>
    have hG : nodesG N (.int .i64 f) = some (nodeV n) := by simp [nodesG, hN]
    have hl : lvl N f = n.lv := by simp [lvl, hN]
    rw [hl]
    clear hl hN
    unfold nodeV trip at hG
    go_enter Tryz.func132, Tryz.ntmps132
    go_wp2_with (first
      | (at_lookup; refine wpList_look_ok _ rfl _ _ 151 rfl 88 157 lawFn Tryz.underlying151 (zeroNode _) bm sz (nodesG N) rfl hown (.int .i64 f) _ rfl hkey ?_; rw [hG])
      | go_in)
    go_ret
    exact ⟨rfl, (Keeps.refl _ _).alloc _⟩

/-- the two parts of a function at a level -/
def part (N : Tab) (f l : Int) (b : Bool) : Int := match N f with | some n => if n.lv = l then (if b then n.hi else n.lo) else f | none => f

set_option maxRecDepth 100000 in
set_option maxHeartbeats 400000 in
theorem branches_any {w : World} {t bn bm sz : Nat} {N : Tab} {top last : Int} (h : TabAt w t bn bm sz N top last) {f : Int} (hf : Fits f) (l : Int) :
    Calls Tryz.prog 133 #[.pointer (some ⟨t, 0, none⟩), .int .i64 f, .int .i64 l] w fun e w' => e = .returned (.tuple #[.int .i64 (part N f l false), .int .i64 (part N f l true)]) ∧ Keeps [] w w' := by
  have c1 := h.c1
  have hown := h.nodes
  have hkey := keyFn hf
  cases hN : N f with
  | none =>
    have hG : nodesG N (.int .i64 f) = none := by simp [nodesG, hN]
    have hl : ∀ b, part N f l b = f := by simp [part, hN]
    rw [hl, hl]
    clear hl hN
    go_enter Tryz.func133, Tryz.ntmps133
    go_wp2_with (first
      | (at_lookup; refine wpList_look_ok _ rfl _ _ 151 rfl 88 157 lawFn Tryz.underlying151 (zeroNode _) bm sz (nodesG N) rfl hown (.int .i64 f) _ rfl hkey ?_; rw [hG])
      | go_in)
    go_ret2
    exact ⟨rfl, (Keeps.refl _ _).alloc _⟩
  | some n =>
    have hG : nodesG N (.int .i64 f) = some (nodeV n) := by simp [nodesG, hN]
    unfold nodeV trip at hG
    by_cases e : n.lv = l
    · have hl0 : part N f l false = n.lo := by simp [part, hN, e]
      have hl1 : part N f l true = n.hi := by simp [part, hN, e]
      rw [hl0, hl1]
      have e' : (n.lv == l) = true := by simp [e]
      clear hl0 hl1 hN e
      go_enter Tryz.func133, Tryz.ntmps133
      go_wp2_with (first
        | (at_lookup; refine wpList_look_ok _ rfl _ _ 151 rfl 88 157 lawFn Tryz.underlying151 (zeroNode _) bm sz (nodesG N) rfl hown (.int .i64 f) _ rfl hkey ?_; rw [hG])
        | go_in)
      go_quiet (fail)
      go_wp2
      go_ret2
      exact ⟨rfl, ((Keeps.refl _ _).alloc _).drewN _⟩
    · have hl : ∀ b, part N f l b = f := by simp [part, hN, e]
      rw [hl, hl]
      have e' : (n.lv == l) = false := by simp [e]
      clear hl hN e
      go_enter Tryz.func133, Tryz.ntmps133
      go_wp2_with (first
        | (at_lookup; refine wpList_look_ok _ rfl _ _ 151 rfl 88 157 lawFn Tryz.underlying151 (zeroNode _) bm sz (nodesG N) rfl hown (.int .i64 f) _ rfl hkey ?_; rw [hG])
        | go_in)
      go_ret2
      exact ⟨rfl, (Keeps.refl _ _).alloc _⟩
end Go.Proofs.YtmgjegokkbghlaaGreatDoor
