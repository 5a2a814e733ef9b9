/-
  A map in memory, told by a plain function from keys' values to elements' values; what a stretch of a run keeps but for some blocks. No program's text.
-/
import Derived.Maps.RangeWalk
import Derived.Maps.OwnOps
import Derived.Below
import Derived.Deep.Draws
namespace Go.Proofs.YtmgjegokkbghlaaGreatDoor
open Go.RowKit Go.Maps
open Go.WideElems (Fit rd rg rd_key rd_val rg_of)

/-- an element, as it stands -/
def tok (v : Value) : Option (DataW Value × List MemPlace) := some (.held v, [])
theorem tok_eq {v : Value} {d : DataW Value} {ps : List MemPlace} (h : tok v = some (d, ps)) : d = .held v := by
  simp only [tok, Option.some.injEq, Prod.mk.injEq] at h; exact h.1.symm

def view (D : DataW Value) (kl : Lit) : Option Value := if Maps.has D kl then (match D.atKey kl .nil with | .held v => some v | _ => none) else none

theorem view_none {D : DataW Value} {kl : Lit} (h : Maps.has D kl = false) : view D kl = none := by simp [view, h]
theorem view_some {D : DataW Value} {kl : Lit} {v : Value} (h : Maps.has D kl = true) (ha : D.atKey kl .nil = .held v) : view D kl = some v := by simp [view, h, ha]

section
variable {P : Program} {k : TypeId} {w : World} {b n : Nat} {D : DataW Value}

/-- where a key is, its element is one and the same whatever the default -/
theorem at_of_has (h : w.ownsMap P k tok b n D) {kl : Lit} (hh : Maps.has D kl = true) : ∃ v, ∀ z, D.atKey kl z = .held v := by
  obtain ⟨es, clock, _, F, _, rfl⟩ := h
  obtain ⟨p, hp, hs⟩ := List.any_eq_true.1 hh
  have hsome : (((es.toList.map (rg P k tok)).foldr DataW.insert []).find? (fun p => p.1.sameKey kl)).isSome = true := List.find?_isSome.2 ⟨p, hp, hs⟩
  obtain ⟨q, hq⟩ := Option.isSome_iff_exists.1 hsome
  have hqm := List.mem_of_find?_eq_some hq
  obtain ⟨x, hx, rfl⟩ := List.mem_map.1 (mem_sorted.1 hqm)
  obtain ⟨y, hy⟩ := F.reads x hx
  obtain ⟨z, hz, hzd⟩ := rd_val hy
  refine ⟨x.val, fun z' => ?_⟩
  simp only [DataW.atKey, hq]
  rw [rg_of hy, hzd]
  obtain ⟨z1, z2⟩ := z
  exact tok_eq hz

theorem view_of_has (h : w.ownsMap P k tok b n D) {kl : Lit} (hh : Maps.has D kl = true) : ∃ v, view D kl = some v ∧ ∀ z, D.atKey kl z = .held v := by
  obtain ⟨v, hv⟩ := at_of_has h hh
  exact ⟨v, view_some hh (hv _), hv⟩
theorem view_isSome (h : w.ownsMap P k tok b n D) (kl : Lit) : (view D kl).isSome = Maps.has D kl := by
  cases hh : Maps.has D kl
  · rw [view_none hh]; rfl
  · obtain ⟨v, hv, _⟩ := view_of_has h hh
    rw [hv]; rfl
end

/-- BLOCK b IS A MAP OF n ENTRIES: at the key x it holds G x. -/
def MapIs (w : World) (P : Program) (k : TypeId) (b n : Nat) (G : Value → Option Value) : Prop :=
  ∃ D : DataW Value, w.ownsMap P k tok b n D ∧ Maps.size D = n ∧ ∀ key kl, keyOf P k key = some kl → view D kl = G key

open Classical in
/-- G with another answer at one key -/
noncomputable def setG (G : Value → Option Value) (key : Value) (v : Option Value) : Value → Option Value := fun x => if x = key then v else G x
theorem setG_same (G : Value → Option Value) (key : Value) (v : Option Value) : setG G key v key = v := by simp [setG]
theorem setG_other (G : Value → Option Value) {key x : Value} (v : Option Value) (h : x ≠ key) : setG G key v x = G x := by simp [setG, h]

open Classical in
/-- 'left' without one key -/
noncomputable def strike (left : Value → Bool) (key : Value) : Value → Bool := fun x => if x = key then false else left x
theorem strike_same (left : Value → Bool) (key : Value) : strike left key key = false := by simp [strike]
theorem strike_other (left : Value → Bool) {key x : Value} (h : x ≠ key) : strike left key x = left x := by simp [strike, h]

/-- WHAT A STRETCH OF A RUN KEEPS: every block that was there but those of S. -/
structure Keeps (S : List Nat) (w w' : World) : Prop where
  os : w'.os = w.os
  tape : w'.tape = w.tape
  output : w'.output = w.output
  size : w.heap.size ≤ w'.heap.size
  block : ∀ k, k < w.heap.size → k ∉ S → w'.heap[k]? = w.heap[k]?

theorem Keeps.refl (S : List Nat) (w : World) : Keeps S w w := ⟨rfl, rfl, rfl, Nat.le_refl _, fun _ _ _ => rfl⟩
theorem Keeps.trans {S : List Nat} {a b c : World} (h : Keeps S a b) (k : Keeps S b c) : Keeps S a c :=
  ⟨k.os.trans h.os, k.tape.trans h.tape, k.output.trans h.output, Nat.le_trans h.size k.size, fun i hi hs => (k.block i (Nat.lt_of_lt_of_le hi h.size) hs).trans (h.block i hi hs)⟩
theorem Keeps.mono {S S' : List Nat} {a b : World} (h : Keeps S a b) (hs : ∀ i, i ∈ S → i ∈ S') : Keeps S' a b :=
  ⟨h.os, h.tape, h.output, h.size, fun i hi hn => h.block i hi (fun hm => hn (hs i hm))⟩
/-- blocks of S that were not there at the start may be struck -/
theorem Keeps.strike {S S' : List Nat} {a b : World} (h : Keeps S a b) (hs : ∀ i, i ∈ S → i < a.heap.size → i ∈ S') : Keeps S' a b :=
  ⟨h.os, h.tape, h.output, h.size, fun i hi hn => h.block i hi (fun hm => hn (hs i hm hi))⟩
theorem Keeps.drew {S : List Nat} {a b : World} (h : Keeps S a b) : Keeps S a b.drew := ⟨h.os, h.tape, h.output, h.size, h.block⟩
theorem Keeps.drewN {S : List Nat} {a b : World} (h : Keeps S a b) (n : Nat) : Keeps S a (b.drewN n) := ⟨h.os, h.tape, h.output, h.size, h.block⟩
theorem Keeps.alloc {S : List Nat} {a b : World} (h : Keeps S a b) (o : Obj) : Keeps S a (b.alloc o) :=
  h.trans ⟨rfl, rfl, rfl, by simp, fun k hk _ => Below.heap_alloc _ _ _ hk⟩
theorem Keeps.setCell {S : List Nat} {a b : World} (h : Keeps S a b) (p : Addr) (hp : p.block ∈ S ∨ a.heap.size ≤ p.block) (u : Value) : Keeps S a (b.setCell p u) :=
  ⟨h.os, h.tape, h.output, by have := h.size; simpa [World.setCell] using this, fun k hk hs => (Below.heap_setCell _ _ _ _ (by
    intro e; subst e
    rcases hp with hp | hp
    · exact hs hp
    · omega)).trans (h.block k hk hs)⟩
theorem Keeps.grown {S : List Nat} {a b c : World} {row : Option Nat} (h : Keeps S a b) (hg : b.grownBy c row) (hr : ∀ j, row = some j → j ∈ S ∨ a.heap.size ≤ j) : Keeps S a c :=
  ⟨hg.os.trans h.os, hg.tape.trans h.tape, hg.output.trans h.output, Nat.le_trans h.size hg.size, fun i hi hs =>
    (hg.block i (Nat.lt_of_lt_of_le hi h.size) (fun e => by
      rcases hr i e.symm with h1 | h1
      · exact hs h1
      · omega)).trans (h.block i hi hs)⟩
theorem Keeps.below {S : List Nat} {a b : World} {B : Nat} (h : Keeps S a b) (hB : B ≤ a.heap.size) (hS : ∀ i ∈ S, B ≤ i) : Below B a b :=
  ⟨h.os, h.tape, h.output, h.size, fun i hi => h.block i (by omega) (fun hm => by have := hS i hm; omega)⟩
theorem Keeps.ofBelow {a b : World} (h : Below a.heap.size a b) (S : List Nat) : Keeps S a b := ⟨h.os, h.tape, h.output, h.size, fun i hi _ => h.block i hi⟩
theorem Keeps.cell {S : List Nat} {a b : World} (h : Keeps S a b) {p : Addr} {v : Value} (hc : a.cell? p = some v) (hp : p.block ∉ S) : b.cell? p = some v := by
  have hlt : p.block < a.heap.size := by
    rcases Nat.lt_or_ge p.block a.heap.size with h1 | h1
    · exact h1
    · simp [World.cell?, Array.getElem?_eq_none h1] at hc
  rw [World.cell?_of_block (w := a) (h.block p.block hlt hp)]; exact hc
theorem Keeps.frozen {S : List Nat} {a b : World} (h : Keeps S a b) {p : Addr} (hlt : p.block < a.heap.size) (hp : p.block ∉ S) : b.frozen? p = a.frozen? p :=
  World.frozen?_of_block (w := a) (h.block p.block hlt hp)

section
variable {P : Program} {k : TypeId} {w w' : World} {b n : Nat} {G : Value → Option Value}

theorem MapIs.lt (h : MapIs w P k b n G) : b < w.heap.size := by obtain ⟨D, h, _⟩ := h; exact h.lt
theorem MapIs.keeps {S : List Nat} (h : MapIs w P k b n G) (hk : Keeps S w w') (hb : b ∉ S) : MapIs w' P k b n G := by
  have hlt := h.lt
  obtain ⟨D, ⟨es, clock, hb', r⟩, hs, hv⟩ := h
  exact ⟨D, ⟨es, clock, (hk.block b hlt hb).trans hb', r⟩, hs, hv⟩
theorem MapIs.grown {row : Option Nat} (h : MapIs w P k b n G) (hg : w.grownBy w' row) (hne : some b ≠ row) : MapIs w' P k b n G := by
  obtain ⟨D, h, hs, hv⟩ := h
  exact ⟨D, h.kept hg hne, hs, hv⟩
theorem MapIs.alloc (h : MapIs w P k b n G) (o : Obj) : MapIs (w.alloc o) P k b n G := h.grown (World.grownBy_alloc w o none) (by simp)
theorem MapIs.drew (h : MapIs w P k b n G) : MapIs w.drew P k b n G := h
theorem MapIs.setCell (h : MapIs w P k b n G) {p : Addr} (hp : p.block ≠ b) (u : Value) : MapIs (w.setCell p u) P k b n G := by
  obtain ⟨D, ⟨es, clock, hb', r⟩, hs, hv⟩ := h
  exact ⟨D, ⟨es, clock, (Below.heap_setCell _ _ _ _ (fun e => hp e.symm)).trans hb', r⟩, hs, hv⟩
theorem MapIs.congr (h : MapIs w P k b n G) {G' : Value → Option Value} (hG : ∀ x kl, keyOf P k x = some kl → G x = G' x) : MapIs w P k b n G' := by
  obtain ⟨D, h, hs, hv⟩ := h
  exact ⟨D, h, hs, fun key kl hk => (hv key kl hk).trans (hG key kl hk)⟩
theorem MapIs.made (w : World) (P : Program) (k : TypeId) : MapIs (w.alloc (.map #[] 0)) P k w.heap.size 0 (fun _ => none) :=
  ⟨.map [], World.ownsMap_made w P k tok, rfl, fun _ _ _ => rfl⟩
/-- no cells at the map's block -/
theorem MapIs.ne_cell (h : MapIs w P k b n G) {p : Addr} {v : Value} (hc : w.cell? p = some v) : p.block ≠ b := by
  intro e
  obtain ⟨D, ⟨es, clock, hb', _⟩, _⟩ := h
  rw [← e] at hb'
  simp [World.cell?, hb'] at hc

theorem MapIs.look (h : MapIs w P k b n G) (K : Keyed P k) {t e : TypeId} (ht : P.underlying t = some (.map k e)) {z : Value} (hz : (zeroValue e).run P w = .ok z w) {key : Value} {kl : Lit} (hkey : keyOf P k key = some kl) :
    (Instr.lookup t (.map (some b)) key true).run P w = .ok (.tuple #[(G key).getD z, .bool (G key).isSome]) w ∧ (Instr.lookup t (.map (some b)) key false).run P w = .ok ((G key).getD z) w := by
  obtain ⟨D, h, _, hv⟩ := h
  have hG := hv key kl hkey
  obtain ⟨v, ps, hrun, hvv⟩ := h.look_ok K ht hz (zd := .held z) (zp := []) rfl hkey
  obtain ⟨v2, ps2, hrun2, hvv2⟩ := h.lookup K ht hz (zd := .held z) (zp := []) rfl hkey
  have e1 := tok_eq hvv
  have e2 := tok_eq hvv2
  cases hh : Maps.has D kl
  · rw [view_none hh] at hG
    rw [atKey_of_not_has hh] at e1 e2
    cases e1
    cases e2
    rw [hh] at hrun
    rw [← hG]
    exact ⟨hrun, hrun2⟩
  · obtain ⟨u, hu, hat⟩ := view_of_has h hh
    rw [hat] at e1 e2
    cases e1
    cases e2
    rw [hh] at hrun
    rw [← hG, hu]
    exact ⟨hrun, hrun2⟩

theorem MapIs.update (h : MapIs w P k b n G) (K : Keyed P k) {t e : TypeId} (ht : P.underlying t = some (.map k e)) (hn : n < maxLen) {key : Value} {kl : Lit} (hkey : keyOf P k key = some kl) (val : Value) :
    ∃ w', (Instr.mapUpdate t (.map (some b)) key val).run P w = .ok () w' ∧ MapIs w' P k b (if (G key).isSome then n else n + 1) (setG G key (some val)) ∧ w.grownBy w' (some b) := by
  obtain ⟨D, h, hs, hv⟩ := h
  obtain ⟨w', hrun, hown, hg⟩ := h.update K ht hn (d := .held val) (ps := []) hkey rfl
  have hsz : Maps.size (D.put kl (.held val)) = if (G key).isSome then n else n + 1 := by
    rw [size_put (h.tidy K), ← view_isSome h kl, hv key kl hkey, hs]
  refine ⟨w', hrun, ⟨D.put kl (.held val), ?_, hsz, ?_⟩, hg⟩
  · obtain ⟨es, clock, hb', F, _, hD⟩ := hown
    refine ⟨es, clock, hb', F, ?_, hD⟩
    rw [← hsz, hD]
    simp [Maps.size, length_sorted]
  · intro key' kl' hkey'
    by_cases e' : kl' = kl
    · subst e'
      have := K.inj hkey' hkey
      subst this
      rw [setG_same, view_some (has_put_same (h.tidy K).isMap (K.key hkey') _) (atKey_put_same (h.tidy K).isMap (K.key hkey') _ _)]
    · rw [setG_other _ _ (fun ek => e' (by rw [ek] at hkey'; rw [hkey] at hkey'; cases hkey'; rfl)), ← hv key' kl' hkey']
      unfold view
      rw [has_put_other e', atKey_put_other e']

theorem MapIs.delete (h : MapIs w P k b n G) (K : Keyed P k) {t e : TypeId} (ht : P.underlying t = some (.map k e)) {key : Value} {kl : Lit} (hkey : keyOf P k key = some kl) (ty : TypeId) :
    ∃ w', (Builtin.delete_ #[t, k] ty #[.map (some b), key]).run P w = .ok (.tuple #[]) w' ∧ MapIs w' P k b (if (G key).isSome then n - 1 else n) (setG G key none) ∧ w.grownBy w' (some b) := by
  obtain ⟨D, h, hs, hv⟩ := h
  obtain ⟨w', hrun, hown, hg⟩ := h.drop K ht hkey ty
  have hsz : Maps.size (D.del kl) = if (G key).isSome then n - 1 else n := by
    have := size_del (k := kl) (h.tidy K)
    rw [← view_isSome h kl, hv key kl hkey, hs] at this
    split at this <;> simp_all <;> omega
  refine ⟨w', hrun, ⟨D.del kl, ?_, hsz, ?_⟩, hg.grown⟩
  · obtain ⟨es, clock, hb', F, _, hD⟩ := hown
    refine ⟨es, clock, hb', F, ?_, hD⟩
    rw [← hsz, hD]
    simp [Maps.size, length_sorted]
  · intro key' kl' hkey'
    by_cases e' : kl' = kl
    · subst e'
      have := K.inj hkey' hkey
      subst this
      rw [setG_same, view_none has_del_same]
    · rw [setG_other _ _ (fun ek => e' (by rw [ek] at hkey'; rw [hkey] at hkey'; cases hkey'; rfl)), ← hv key' kl' hkey']
      unfold view
      rw [has_del_other e', atKey_del_other e']

theorem MapIs.len (h : MapIs w P k b n G) {t e : TypeId} (ht : P.underlying t = some (.map k e)) (ty : TypeId) : (Builtin.len_ #[t] ty #[.map (some b)]).run P w = .ok (.int .i64 n) w := by
  obtain ⟨D, h, hs, _⟩ := h
  rw [← hs]; exact h.len ht ty
end

/-! ### at the operation, for the walk -/
section
variable {P : Program} (w : World) {ops : Array Oper} {rest : List Oper} {o : Oper} {a : Act} {Q : Exit → Act → World → Prop}

theorem wpList_look (hg : o.guard = none) (m x : Operand) (t : TypeId) (hop : o.op = Op.lookup t m x false) (k e : TypeId) (K : Keyed P k) (ht : P.underlying t = some (.map k e)) {z : Value} (hz : (zeroValue e).run P w = .ok z w) (b n : Nat) (G : Value → Option Value)
    (hm : a.eval m = .map (some b)) (hown : MapIs w P k b n G) (key : Value) (kl : Lit) (hx : a.eval x = key) (hkey : keyOf P k key = some kl)
    (hK : wpList P ops Q rest (a.put o.dst ((G key).getD z)) w) : wpList P ops Q (o :: rest) a w := by
  refine wpList_plain hg fun K' hK' => ?_
  have hrun := (hown.look K ht hz hkey).2
  unfold Oper.wp
  simp [execOp, hop, hm, hx, hrun, Result.andThen]
  exact hK' _ _ hK

theorem wpList_look_ok (hg : o.guard = none) (m x : Operand) (t : TypeId) (hop : o.op = Op.lookup t m x true) (k e : TypeId) (K : Keyed P k) (ht : P.underlying t = some (.map k e)) {z : Value} (hz : (zeroValue e).run P w = .ok z w) (b n : Nat) (G : Value → Option Value)
    (hm : a.eval m = .map (some b)) (hown : MapIs w P k b n G) (key : Value) (kl : Lit) (hx : a.eval x = key) (hkey : keyOf P k key = some kl)
    (hK : wpList P ops Q rest (a.put o.dst (.tuple #[(G key).getD z, .bool (G key).isSome])) w) : wpList P ops Q (o :: rest) a w := by
  refine wpList_plain hg fun K' hK' => ?_
  have hrun := (hown.look K ht hz hkey).1
  unfold Oper.wp
  simp [execOp, hop, hm, hx, hrun, Result.andThen]
  exact hK' _ _ hK

theorem wpList_store (hg : o.guard = none) (m x v : Operand) (t : TypeId) (hop : o.op = Op.mapUpdate t m x v) (k e : TypeId) (K : Keyed P k) (ht : P.underlying t = some (.map k e)) (b n : Nat) (G : Value → Option Value)
    (hm : a.eval m = .map (some b)) (hown : MapIs w P k b n G) (hn : n < maxLen) (key val : Value) (kl : Lit) (hx : a.eval x = key) (hv : a.eval v = val) (hkey : keyOf P k key = some kl)
    (hK : ∀ w', MapIs w' P k b (if (G key).isSome then n else n + 1) (setG G key (some val)) → w.grownBy w' (some b) → wpList P ops Q rest (a.put o.dst undef) w') : wpList P ops Q (o :: rest) a w := by
  refine wpList_plain hg fun K' hK' => ?_
  obtain ⟨w', hrun, r1, r2⟩ := hown.update K ht hn hkey val
  unfold Oper.wp
  simp [execOp, hop, hm, hx, hv, hrun, Result.andThen]
  exact hK' _ _ (hK w' r1 r2)

theorem wpList_drop (hg : o.guard = none) (m x : Operand) (t k : TypeId) (hop : o.op = Op.call { callee := Callee.builtin Builtin.delete, args := #[m, x], argTypes := #[t, k] }) (e : TypeId) (K : Keyed P k) (ht : P.underlying t = some (.map k e)) (b n : Nat) (G : Value → Option Value)
    (hm : a.eval m = .map (some b)) (hown : MapIs w P k b n G) (key : Value) (kl : Lit) (hx : a.eval x = key) (hkey : keyOf P k key = some kl)
    (hK : ∀ w', MapIs w' P k b (if (G key).isSome then n - 1 else n) (setG G key none) → w.grownBy w' (some b) → wpList P ops Q rest (a.put o.dst (.tuple #[])) w') : wpList P ops Q (o :: rest) a w := by
  refine wpList_plain hg fun K' hK' => ?_
  obtain ⟨w', hrun, r1, r2⟩ := hown.delete K ht hkey o.type
  unfold Oper.wp
  simp [execOp, hop, resolve, invoke, builtin, hm, hx, hrun, Result.andThen]
  exact hK' _ _ (hK w' r1 r2)

theorem wpList_length (hg : o.guard = none) (m : Operand) (t : TypeId) (hop : o.op = Op.call { callee := Callee.builtin Builtin.len, args := #[m], argTypes := #[t] }) (k e : TypeId) (ht : P.underlying t = some (.map k e)) (b n : Nat) (G : Value → Option Value) (hm : a.eval m = .map (some b)) (hown : MapIs w P k b n G)
    (hK : wpList P ops Q rest (a.put o.dst (.int .i64 n)) w) : wpList P ops Q (o :: rest) a w := by
  refine wpList_plain hg fun K' hK' => ?_
  unfold Oper.wp
  simp [execOp, hop, resolve, invoke, builtin, hm, hown.len ht o.type, Result.andThen]
  exact hK' _ _ hK
end

/-! ### a range over a map -/
/-- A RANGE UNDER WAY over the map at b, its iterator at r: 'left x': is the entry at the key x still to come? -/
def RangeIs (w : World) (P : Program) (k : TypeId) (b r n : Nat) (G : Value → Option Value) (left : Value → Bool) (cnt : Nat) : Prop :=
  ∃ (D : DataW Value) (lf : Lit → Bool), w.ranges P k tok b r n D lf cnt ∧ Maps.size D = n ∧ (∀ key kl, keyOf P k key = some kl → view D kl = G key) ∧ ∀ key kl, keyOf P k key = some kl → lf kl = left key

section
variable {P : Program} {k : TypeId} {w w' : World} {b r n : Nat} {G : Value → Option Value} {left : Value → Bool} {cnt : Nat}
theorem RangeIs.owns (h : RangeIs w P k b r n G left cnt) : MapIs w P k b n G := by
  obtain ⟨D, lf, h, hs, hv, _⟩ := h
  exact ⟨D, h.owns, hs, hv⟩
theorem RangeIs.left_eq (h : RangeIs w P k b r n G left cnt) : w.rangeLeft b r = cnt := by obtain ⟨D, lf, h, _⟩ := h; exact h.left_eq
theorem RangeIs.lt (h : RangeIs w P k b r n G left cnt) : r < w.heap.size := by obtain ⟨D, lf, h, _⟩ := h; exact h.lt
theorem RangeIs.keeps {S : List Nat} (h : RangeIs w P k b r n G left cnt) (hk : Keeps S w w') (hb : b ∉ S) (hr : r ∉ S) : RangeIs w' P k b r n G left cnt := by
  have h1 := h.owns.lt
  have h2 := h.lt
  obtain ⟨D, lf, ⟨es, clock, since, seen, c0, hb', F, hs, hD, hr', rest⟩, q⟩ := h
  exact ⟨D, lf, ⟨es, clock, since, seen, c0, (hk.block b h1 hb).trans hb', F, hs, hD, (hk.block r h2 hr).trans hr', rest⟩, q⟩
theorem RangeIs.alloc (h : RangeIs w P k b r n G left cnt) (o : Obj) : RangeIs (w.alloc o) P k b r n G left cnt := by
  obtain ⟨D, lf, h, q⟩ := h
  exact ⟨D, lf, h.alloc o, q⟩
end

section
variable {P : Program} (w : World) {ops : Array Oper} {rest : List Oper} {o : Oper} {a : Act} {Q : Exit → Act → World → Prop}

theorem wpList_rangeIs (hg : o.guard = none) (m : Operand) (t : TypeId) (hop : o.op = Op.range t m) (k e : TypeId) (K : Keyed P k) (ht : P.underlying t = some (.map k e)) (b n : Nat) (G : Value → Option Value)
    (hm : a.eval m = .map (some b)) (hown : MapIs w P k b n G)
    (hK : ∀ w', RangeIs w' P k b w.heap.size n G (fun x => (G x).isSome) n → w.grownBy w' none → w'.heap.size = w.heap.size + 1 → wpList P ops Q rest (a.put o.dst (.pointer (some ⟨w.heap.size, 0, none⟩))) w') : wpList P ops Q (o :: rest) a w := by
  obtain ⟨D, hown, hs, hv⟩ := hown
  refine wpList_range_own w hg m t hop k e K ht tok b n D hm hown (fun w' h1 h2 h3 => hK w' ⟨D, Maps.has D, hs ▸ h1, hs, hv, fun key kl hk => by rw [← view_isSome hown kl, hv key kl hk]⟩ h2 h3)

/-- THE STEP of a range over keys of an integer's type. mkV: the elements' shape. -/
theorem wpList_nextIs {β : Type} (hg : o.guard = none) (it : Operand) (hop : o.op = Op.next it false) (k : TypeId) (qk : IntKind) (K : Keyed P k) (hk : P.underlying k = some (.int qk)) (mkV : β → Value) (b r n : Nat) (G : Value → Option Value) (left : Value → Bool) (cnt : Nat)
    (invV : ∀ x v, G x = some v → ∃ c, v = mkV c) (hit : a.eval it = .pointer (some ⟨r, 0, none⟩)) (h : RangeIs w P k b r n G left cnt)
    (hDone : cnt = 0 → (∀ x, (Lit.int qk x).wf = true → left (.int qk x) = false) → wpList P ops Q rest (a.put o.dst (.tuple #[.bool false])) w)
    (hMore : ∀ (x : Int) (c : β) (w' : World) (cnt' : Nat), (Lit.int qk x).wf = true → left (.int qk x) = true → G (.int qk x) = some (mkV c) → RangeIs w' P k b r n G (strike left (.int qk x)) cnt' → cnt' < cnt →
      w.grownBy w' (some r) → w'.heap.size = w.heap.size → (Instr.entry (.pointer (some ⟨r, 0, none⟩))).run P w' = .ok (.tuple #[.int qk x, mkV c]) w' → wpList P ops Q rest (a.put o.dst (.tuple #[.bool true, .int qk x, mkV c])) w') :
    wpList P ops Q (o :: rest) a w := by
  obtain ⟨D, lf, hrg, hs, hv, hl⟩ := h
  have hown := hrg.owns
  refine wpList_plain hg fun K' hK' => ?_
  unfold Oper.wp
  rcases hrg.next K o.type with ⟨h0, hlf, hrun⟩ | ⟨key, v, kl, y, w', cnt', hkey, hlk, hvv, hat, hrun, hrg', hlt, hgr, hsz, hen⟩
  · simp [execOp, hop, hit, hrun, Result.andThen]
    exact hK' _ _ (hDone h0 (fun x hwx => by rw [← hl _ _ (keyOf_int_mk hk hwx)]; exact hlf _))
  · obtain ⟨x, rfl, rfl, hwx⟩ := Maps.keyOf_int_inv hk hkey
    have hy : y.1 = .held v := by obtain ⟨y1, y2⟩ := y; exact tok_eq hvv
    have hG : G (.int qk x) = some v := by
      rw [← hv _ _ hkey]
      exact view_some (has_true_of_atKey hat) (by rw [hat]; exact hy)
    obtain ⟨c, rfl⟩ := invV _ _ hG
    simp [execOp, hop, hit, hrun, Result.andThen]
    refine hK' _ _ (hMore x c w' cnt' hwx (by rw [← hl _ _ hkey]; exact hlk) hG ⟨D, _, hrg', hs, hv, fun key' kl' hkey' => ?_⟩ hlt hgr hsz hen)
    obtain ⟨x', rfl, rfl, hwx'⟩ := Maps.keyOf_int_inv hk hkey'
    by_cases e : x' = x
    · subst e
      rw [strike_same, WideAt.sameKey_self (K.key hkey)]
      simp
    · rw [strike_other _ (fun e' => e (by cases e'; rfl)), sameKey_ne (fun e' => e (by cases e'; rfl)), hl _ _ hkey']
      simp

/-- 'delete(m, k)' IN THE ROUND. -/
theorem wpList_dropIs (hg : o.guard = none) (m x : Operand) (t k : TypeId) (hop : o.op = Op.call { callee := Callee.builtin Builtin.delete, args := #[m, x], argTypes := #[t, k] })
    (e : TypeId) (K : Keyed P k) (ht : P.underlying t = some (.map k e)) (b r n : Nat) (G : Value → Option Value) (left : Value → Bool) (cnt : Nat)
    (hm : a.eval m = .map (some b)) (h : RangeIs w P k b r n G left cnt) (key : Value) (kl : Lit) (hx : a.eval x = key) (hkey : keyOf P k key = some kl) (hleft : left key = false)
    (hK : ∀ w' cnt', RangeIs w' P k b r (if (G key).isSome then n - 1 else n) (setG G key none) left cnt' → cnt' ≤ cnt → w.grownBy w' (some b) → wpList P ops Q rest (a.put o.dst (.tuple #[])) w') :
    wpList P ops Q (o :: rest) a w := by
  obtain ⟨D, lf, hrg, hs, hv, hl⟩ := h
  have hown := hrg.owns
  refine wpList_plain hg fun K' hK' => ?_
  obtain ⟨w', cnt', hrun, r1, r2, r3⟩ := hrg.drop K ht hkey o.type
  unfold Oper.wp
  simp [execOp, hop, resolve, invoke, builtin, hm, hx, hrun, Result.andThen]
  have hsz : Maps.size (D.del kl) = if (G key).isSome then n - 1 else n := by
    have := size_del (k := kl) (hown.tidy K)
    rw [← view_isSome hown kl, hv key kl hkey, hs] at this
    split at this <;> simp_all <;> omega
  refine hK' _ _ (hK w' cnt' ⟨D.del kl, fun x => lf x && !x.sameKey kl, ?_, hsz, ?_, ?_⟩ r2 r3.grown)
  · obtain ⟨es, clock, since, seen, c0, hb', F, _, hD, q⟩ := r1
    refine ⟨es, clock, since, seen, c0, hb', F, ?_, hD, q⟩
    rw [← hsz, hD]
    simp [Maps.size, length_sorted]
  · intro key' kl' hkey'
    by_cases e' : kl' = kl
    · subst e'
      have := K.inj hkey' hkey
      subst this
      rw [setG_same, view_none has_del_same]
    · rw [setG_other _ _ (fun ek => e' (by rw [ek] at hkey'; rw [hkey] at hkey'; cases hkey'; rfl)), ← hv key' kl' hkey']
      unfold view
      rw [has_del_other e', atKey_del_other e']
  · intro key' kl' hkey'
    by_cases e' : kl' = kl
    · subst e'
      have := K.inj hkey' hkey
      subst this
      show (lf kl' && !kl'.sameKey kl') = left key'
      rw [hl _ _ hkey', hleft]; rfl
    · show (lf kl' && !kl'.sameKey kl) = left key'
      rw [sameKey_ne e', hl _ _ hkey']; simp
end

end Go.Proofs.YtmgjegokkbghlaaGreatDoor
