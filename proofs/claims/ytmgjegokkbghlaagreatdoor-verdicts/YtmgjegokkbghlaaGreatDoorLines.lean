/- The walk of readLines: a range over the library's iterator. -/
import Derived.Test.YtmgjegokkbghlaaGreatDoorSeq
namespace Go.Proofs.YtmgjegokkbghlaaGreatDoor
open Go.RowKit Go.Maps Gram Circ Go.Shelf
attribute [local go_sem] Oper.semAt_some
set_option linter.unusedVariables false

def lineCells (x : Ln) (m : Value) : List Value := [.int .i64 (x.kind : Int), .string x.name, .string x.first, m]
def flatL : List Ln → List Value → List Value
  | x :: ls, m :: ms => lineCells x m ++ flatL ls ms
  | _, _ => []
theorem flatL_snoc : ∀ {ls : List Ln} {ms : List Value}, ms.length = ls.length → ∀ (x : Ln) (m : Value), flatL (ls ++ [x]) (ms ++ [m]) = flatL ls ms ++ lineCells x m
  | [], [], _, x, m => by simp [flatL]
  | y :: ls, n :: ms, h, x, m => by simp at h; simp [flatL, flatL_snoc h]
  | [], _ :: _, h, _, _ => by simp at h
  | _ :: _, [], h, _, _ => by simp at h
theorem flatL_len : ∀ {ls : List Ln} {ms : List Value}, ms.length = ls.length → (flatL ls ms).length = ls.length * 4
  | [], [], _ => by simp [flatL]
  | y :: ls, n :: ms, h => by simp at h; simp [flatL, lineCells, flatL_len h]; omega
  | [], _ :: _, h => by simp at h
  | _ :: _, [], h => by simp at h

/-- THE LINES in memory, each with its expression -/
def LinesAt (w : World) (base : Nat) (v : Value) (ls : List Ln) : Prop :=
  ∃ ms : List Value, ms.length = ls.length ∧ w.ownsRow base 139 4 v ls.length (flatL ls ms) ∧ ∀ i (hi : i < ls.length), ∃ a n c, ms[i]? = some (.slice a n c) ∧ Wds w base (.slice a n c) (lnPost ls[i])
theorem LinesAt.nil (w : World) (base : Nat) : LinesAt w base (.slice none 0 0) [] := ⟨[], rfl, World.ownsRow_nil _ _ _ _, fun i hi => by simp at hi⟩
theorem row_keeps {w w' : World} {base : Nat} {e : TypeId} {k n : Nat} {v : Value} {xs : List Value} {S : List Nat} (h : w.ownsRow base e k v n xs) (hk : Keeps S w w') (hS : ∀ i ∈ S, i < base) : w'.ownsRow base e k v n xs := by
  refine ⟨h.1, ?_⟩
  rcases h.2 with h0 | ⟨g, cap, cur, h1, h2, h3, h4⟩
  · exact Or.inl h0
  · exact Or.inr ⟨g, cap, cur, h1, h2, (hk.block g (Array.getElem?_eq_some_iff.1 h3).1 (fun hm => by have := hS g hm; omega)).trans h3, h4⟩
theorem LinesAt.keeps {w w' : World} {base : Nat} {v : Value} {ls : List Ln} {S : List Nat} (h : LinesAt w base v ls) (hk : Keeps S w w') (hS : ∀ i ∈ S, i < base) : LinesAt w' base v ls := by
  obtain ⟨ms, h1, h2, h3⟩ := h
  refine ⟨ms, h1, row_keeps h2 hk hS, fun i hi => ?_⟩
  obtain ⟨a, n, c, h4, h5⟩ := h3 i hi
  exact ⟨a, n, c, h4, h5.keeps hk hS⟩
theorem LinesAt.base {w : World} {base base' : Nat} {v : Value} {ls : List Ln} (h : LinesAt w base v ls) (hb : base' ≤ base) : LinesAt w base' v ls := by
  obtain ⟨ms, h1, h2, h3⟩ := h
  refine ⟨ms, h1, ⟨h2.1, ?_⟩, fun i hi => ?_⟩
  · rcases h2.2 with h0 | ⟨g, cap, cur, k1, k2, k3⟩
    · exact Or.inl h0
    · exact Or.inr ⟨g, cap, cur, k1, by omega, k3⟩
  · obtain ⟨a, n, c, h4, h5⟩ := h3 i hi
    exact ⟨a, n, c, h4, h5.base hb⟩
theorem LinesAt.slice {w : World} {base : Nat} {v : Value} {ls : List Ln} (h : LinesAt w base v ls) : ∃ a n c, v = .slice a n c := by
  obtain ⟨ms, _, hr, _⟩ := h
  rcases hr.2 with ⟨h0, _⟩ | ⟨g, cap, cur, hv, _⟩
  · exact ⟨none, 0, 0, h0⟩
  · exact ⟨_, _, _, hv⟩
theorem cells_new (w : World) (l : List Value) (t : TypeId) : ∀ (j : Nat) (u : Value), l[j]? = some u → (w.alloc (.cells l.toArray t)).cell? ((⟨w.heap.size, 0, none⟩ : Addr).add j) = some u := by
  intro j u h
  rw [Addr.add_lit, Nat.zero_add, World.cell?_alloc_at _ _ _ _ rfl]
  simpa using h
/-- one line more: the row is written, or a new one is laid -/
theorem LinesAt.snoc {w w1 : World} {base : Nat} {v v' : Value} {ls : List Ln} {x : Ln} {a : Option Addr} {n c : Nat} {o o' : Obj} (h : LinesAt w base v ls) (hx : Wds w base (.slice a n c) (lnPost x)) (ms : List Value) (hms : ms.length = ls.length) (hpost : ∀ i (hi : i < ls.length), ∃ a n c, ms[i]? = some (.slice a n c) ∧ Wds w base (.slice a n c) (lnPost ls[i]))
    (hold : w.ownsRow base 139 4 v ls.length (flatL ls ms)) (hown : w1.ownsRow base 139 4 v' (ls.length + 1) (flatL ls ms ++ lineCells x (.slice a n c))) (hg : ((w.alloc o).alloc o').grownBy w1 v.ownBlock) : LinesAt w1 base v' (ls ++ [x]) := by
  have kw : ∀ {u : Value} {l : List W}, Wds w base u l → Wds w1 base u l := by
    intro u l hu
    refine ⟨hu.1, ?_⟩
    rcases hu.2 with h0 | ⟨g, cap, cur, h1, h2, h3, h4⟩
    · exact Or.inl h0
    · refine Or.inr ⟨g, cap, cur, h1, h2, ?_, h4⟩
      have hgl := (Array.getElem?_eq_some_iff.1 h3).1
      have e1 : ((w.alloc o).alloc o').heap[g]? = w.heap[g]? := (Below.heap_alloc _ o' g (by simp; omega)).trans (Below.heap_alloc w o g hgl)
      rw [hg.block g (by simp; omega) ?_, e1]
      · exact h3
      · intro e
        rcases hold.2 with ⟨hv0, _⟩ | ⟨g', cap', cur', hv', hb', hgg, _⟩
        · rw [hv0] at e; cases e
        · rw [hv'] at e
          have e2 : g = g' := by simpa [Value.ownBlock] using e
          subst e2
          rw [h3] at hgg
          simp at hgg
  refine ⟨ms ++ [.slice a n c], by simp [hms], ?_, fun i hi => ?_⟩
  · rw [flatL_snoc hms, List.length_append]; exact hown
  · by_cases e : i < ls.length
    · obtain ⟨a', n', c', h4, h5⟩ := hpost i e
      refine ⟨a', n', c', ?_, ?_⟩
      · rw [List.getElem?_append_left (by omega)]; exact h4
      · rw [List.getElem_append_left e]; exact kw h5
    · have e' : i = ls.length := by simp at hi; omega
      subst e'
      refine ⟨a, n, c, ?_, ?_⟩
      · rw [List.getElem?_append_right (by omega)]; simp [hms]
      · simp; exact kw hx

theorem infoLine : (Tryz.prog.info? 139).map (fun i => (i.zero, i.size, i.bytes)) = some (some (.agg #[.int .i64 0, .string ByteArray.empty, .string ByteArray.empty, .slice none 0 0]), 4, 64) := by kernel_rfl

set_option maxRecDepth 100000 in
theorem splitSeq_any {w : World} (s : ByteArray) :
    Calls Tryz.prog 62 #[.string s, .string ⟨#[10]⟩] w fun e w' => e = .returned (.func (.func 172) #[] #[.pointer (some ⟨w.heap.size + 1, 0, none⟩), .pointer (some ⟨w.heap.size, 0, none⟩), .pointer (some ⟨w.heap.size + 2, 0, none⟩)]) ∧
      w' = ((w.alloc (.cells #[.string s] 9)).alloc (.cells #[.string ⟨#[10]⟩] 9)).alloc (.cells #[.int .i64 0] 3) := by
  go_enter Tryz.func62, Tryz.ntmps62
  have hmf : ∀ (fn : Fn) (first cap : Array Value) (w : World), (Instr.makeFunc fn first cap).run Tryz.prog w = .ok (.func fn first cap) w := fun _ _ _ _ => rfl
  go_wp2
  go_ret
  exact ⟨rfl, rfl⟩

/-- what readLines answers -/
def LinesIs (base : Nat) (t : List UInt8) (e : Ending) (w' : World) : Prop := match linesOf (pieces [] t) with
  | none => e = .returned (.tuple #[.slice none 0 0, .int .i64 ((wrongAt (pieces [] t) + 1 : Nat) : Int)])
  | some ls => ∃ a n c, e = .returned (.tuple #[.slice a n c, .int .i64 0]) ∧ LinesAt w' base (.slice a n c) ls ∧ ls.length ≤ 1001
theorem linesOf_append : ∀ (a b : List (List UInt8)), linesOf (a ++ b) = match linesOf a with
    | none => none
    | some ls => (linesOf b).map (ls ++ ·)
  | [], b => by simp [linesOf]
  | p :: ps, b => by
    simp only [List.cons_append, linesOf]
    cases sayOf p with
    | none => rfl
    | some x =>
      simp only
      rw [linesOf_append ps b]
      cases linesOf ps with
      | none => rfl
      | some ls => cases linesOf b <;> simp
theorem wrongAt_at : ∀ {a : List (List UInt8)} {ls : List Ln} {x : List UInt8} {r : List (List UInt8)}, linesOf a = some ls → sayOf x = none → linesOf (a ++ x :: r) = none ∧ wrongAt (a ++ x :: r) = a.length
  | [], ls, x, r, _, hx => by simp [linesOf, wrongAt, hx]
  | p :: ps, ls, x, r, ha, hx => by
    simp only [linesOf] at ha
    cases hp : sayOf p with
    | none => rw [hp] at ha; cases ha
    | some y =>
      rw [hp] at ha
      simp only at ha
      cases hps : linesOf ps with
      | none => rw [hps] at ha; cases ha
      | some ls' =>
        have := wrongAt_at (r := r) hps hx
        simp [linesOf, wrongAt, hp, this]
theorem linesOf_len : ∀ {a : List (List UInt8)} {ls : List Ln}, linesOf a = some ls → ls.length = a.length
  | [], ls, h => by simp [linesOf] at h; subst h; rfl
  | p :: ps, ls, h => by
    simp only [linesOf] at h
    cases hp : sayOf p with
    | none => rw [hp] at h; cases h
    | some y =>
      rw [hp] at h
      cases hps : linesOf ps with
      | none => rw [hps] at h; cases h
      | some ls' => rw [hps] at h; simp at h; subst h; simp [linesOf_len hps]
theorem pieces_few : ∀ (l cur : List UInt8), (pieces cur l).length ≤ l.length + 1 ∧ ∀ x ∈ pieces cur l, x.length ≤ cur.length + l.length
  | [], cur => by simp [pieces]
  | c :: r, cur => by
    unfold pieces
    split
    · have := pieces_few r []
      refine ⟨by simp; omega, fun x hx => ?_⟩
      rcases List.mem_cons.1 hx with rfl | hx
      · simp
      · have := this.2 x hx; simp at this ⊢; omega
    · have := pieces_few r (cur ++ [c])
      refine ⟨by simp; omega, fun x hx => ?_⟩
      have := this.2 x hx; simp at this ⊢; omega

/-- a range over a function's value, in a function that is in no round -/
theorem range_wide {n : Nat} {P : Program} {g : Operand} {ps : Array Tmp} {assign body : Code} {Q : Exit → Act → World → Prop} {a : Act} {w : World} {gf : Nat} {lb : Array Value} (hg : a.eval g = .func (.func gf) #[] lb) (eg : ∀ args w, (callFunc gf args).run P w = .ok (.enter gf args) w) (h1 : 1 ≤ n)
    (h : ∀ (fn : FuncId) (rec : Loop), rec.state = .ready → rec.pending = none → rec.fn = fn → rec.tmps = a.tmps → rec.params = ps → rec.assign = assign → rec.body = body →
      CallsIn Fence.wide (n - 1) P gf (#[.func (.yield (w.heap.size + 1)) #[] #[]] ++ lb) ((w.alloc (.deferred (some []))).alloc (.loop rec)) (rangePost Fence.wide n P (w.heap.size + 1) Q { a with defers := [{ target := .collected w.heap.size, args := #[] }] ++ a.defers })) :
    (Code.rangeFunc g ps assign body).wpIn Fence.wide n P Q a w := by
  refine wpIn_rangeFunc (fun fn _ => ?_)
  obtain ⟨rec, hrec⟩ : ∃ rec : Loop, rec = { state := .ready, pending := none, fn, tmps := a.tmps, params := ps, assign, body, defers := w.heap.size } := ⟨_, rfl⟩
  have H := h fn rec (by rw [hrec]) (by rw [hrec]) (by rw [hrec]) (by rw [hrec]) (by rw [hrec]) (by rw [hrec]) (by rw [hrec])
  have E : (Instr.enterLoop fn a.tmps ps assign body none).run P w = .ok (w.heap.size + 1, [{ target := .collected w.heap.size, args := #[] }]) ((w.alloc (.deferred (some []))).alloc (.loop rec)) := by rw [hrec]; exact run_enterLoop_outer _ _ _ _ _
  refine ⟨_, _, _, { target := .fn (.func gf) lb, args := #[.func (.yield (w.heap.size + 1)) #[] #[]] }, (w.alloc (.deferred (some []))).alloc (.loop rec), gf, _, _, E, ?_, fun _ _ => trivial, ?_, fun _ => h1, H⟩
  · simp only [resolve, hg]
    simp [go_sem]
  · simp [invoke, go_sem, eg]
theorem keeps_put {w : World} {l : Nat} (o : Obj) : Keeps [l] w (w.putObj l o) :=
  ⟨rfl, rfl, rfl, by simp, fun k _ hk => World.putObj_heap_other (by simpa using hk)⟩

theorem cell_lt' {w : World} {p : Addr} {v : Value} (hc : w.cell? p = some v) : p.block < w.heap.size := by
  rcases Nat.lt_or_ge p.block w.heap.size with h1 | h1
  · exact h1
  · simp [World.cell?, Array.getElem?_eq_none h1] at hc
theorem keeps_far {w W W' : World} {S : List Nat} (h : Keeps [] w W) (hk : Keeps S W W') (hS : ∀ b ∈ S, w.heap.size ≤ b) : Keeps [] w W' :=
  ((h.mono (by simp)).trans hk).strike (fun i hi hlt => by have := hS i hi; omega)
theorem cells_new1 (w : World) (o : Obj) (l : List Value) (t : TypeId) : ∀ (j : Nat) (u : Value), l[j]? = some u → ((w.alloc o).alloc (.cells l.toArray t)).cell? ((⟨w.heap.size + 1, 0, none⟩ : Addr).add j) = some u := by
  intro j u h
  have := cells_new (w.alloc o) l t j u h
  rwa [World.size_alloc] at this
theorem below_app {n : Nat} {w w1 : World} {o o' : Obj} {row : Option Nat} (hn : n ≤ w.heap.size) (hg : ((w.alloc o).alloc o').grownBy w1 row) (hr : ∀ k, row = some k → n ≤ k) : Below n w w1 :=
  (((Below.refl n w).alloc hn _).alloc (by simp; omega) _).grown hg (by simp; omega) hr
/-- boxes, one behind the other -/
def boxes (w : World) : List (Value × TypeId) → World
  | [] => w
  | (v, t) :: r => boxes (w.alloc (.cells #[v] t)) r
theorem boxes_old {w : World} : ∀ (l : List (Value × TypeId)) (w : World), Keeps [] w (boxes w l) ∧ (boxes w l).heap.size = w.heap.size + l.length
  | [], w => ⟨Keeps.refl _ _, rfl⟩
  | (v, t) :: r, w => by
    have := boxes_old (w := w) r (w.alloc (.cells #[v] t))
    refine ⟨((Keeps.refl _ _).alloc _).trans this.1, ?_⟩
    show (boxes (w.alloc _) r).heap.size = _
    rw [this.2]; simp; omega
theorem boxes_at : ∀ (l : List (Value × TypeId)) (w : World) (i : Nat) (v : Value) (t : TypeId), l[i]? = some (v, t) → (boxes w l).cell? ⟨w.heap.size + i, 0, none⟩ = some v ∧ (boxes w l).frozen? ⟨w.heap.size + i, 0, none⟩ = false
  | [], w, i, v, t, h => by simp at h
  | (u, s) :: r, w, 0, v, t, h => by
    simp at h
    obtain ⟨rfl, rfl⟩ := h
    have hk := (boxes_old (w := w) r (w.alloc (.cells #[u] s))).1
    refine ⟨hk.cell (p := ⟨w.heap.size, 0, none⟩) (by simp) (by simp), (hk.frozen (p := ⟨w.heap.size, 0, none⟩) (by simp) (by simp)).trans (by simp)⟩
  | (u, s) :: r, w, i + 1, v, t, h => by
    have := boxes_at r (w.alloc (.cells #[u] s)) i v t (by simpa using h)
    rw [show w.heap.size + (i + 1) = (w.alloc (.cells #[u] s)).heap.size + i by simp; omega]
    exact this

/-- between two rounds: z is the place of the first new block -/
structure Jn (w : World) (l : Nat) (rec : Loop) (pre : List (List UInt8)) (W : World) : Prop where
  keeps : Keeps [] w W
  r1 : W.cell? ⟨w.heap.size, 0, none⟩ = some (.slice none 0 0)
  r2 : W.cell? ⟨w.heap.size + 1, 0, none⟩ = some (.int .i64 0)
  g1 : W.frozen? ⟨w.heap.size, 0, none⟩ = false
  g2 : W.frozen? ⟨w.heap.size + 1, 0, none⟩ = false
  g3 : W.frozen? ⟨w.heap.size + 2, 0, none⟩ = false
  lines : ∃ v ls, linesOf pre = some ls ∧ W.cell? ⟨w.heap.size + 2, 0, none⟩ = some v ∧ LinesAt W (w.heap.size + 8) v ls
  loop : W.heap[w.heap.size + 7]? = some (.loop rec)
  defs : W.heap[w.heap.size + 6]? = some (.deferred (some []))
theorem Jn.on {w W W' : World} {l : Nat} {rec : Loop} {pre : List (List UInt8)} {S : List Nat} (h : Jn w l rec pre W) (hk : Keeps S W W') (hS : ∀ b ∈ S, w.heap.size + 3 ≤ b ∧ b < w.heap.size + 6) : Jn w l rec pre W' := by
  have hlt := (Array.getElem?_eq_some_iff.1 h.loop).1
  have no : ∀ k, (k < w.heap.size + 3 ∨ w.heap.size + 6 ≤ k) → k ∉ S := fun k hk' hm => by have := hS k hm; omega
  obtain ⟨v, ls, h1, h2, h3⟩ := h.lines
  refine ⟨⟨hk.os.trans h.keeps.os, hk.tape.trans h.keeps.tape, hk.output.trans h.keeps.output, Nat.le_trans h.keeps.size hk.size, fun k hk1 _ => (hk.block k (Nat.lt_of_lt_of_le hk1 h.keeps.size) (no k (by omega))).trans (h.keeps.block k hk1 (by simp))⟩, hk.cell h.r1 (no _ (by simp)), hk.cell h.r2 (no _ (by simp)), (hk.frozen (by simp; omega) (no _ (by simp))).trans h.g1, (hk.frozen (by simp; omega) (no _ (by simp))).trans h.g2, (hk.frozen (by simp; omega) (no _ (by simp))).trans h.g3, ⟨v, ls, h1, hk.cell h2 (no _ (by simp)), h3.keeps hk (fun i hi => by have := hS i hi; omega)⟩, (hk.block _ hlt (no _ (by omega))).trans h.loop, (hk.block _ (by omega) (no _ (by omega))).trans h.defs⟩
/-- a round has left -/
structure Jd (w : World) (l : Nat) (rec : Loop) (pre : List (List UInt8)) (W : World) : Prop where
  keeps : Keeps [] w W
  r1 : W.cell? ⟨w.heap.size, 0, none⟩ = some (.slice none 0 0)
  r2 : W.cell? ⟨w.heap.size + 1, 0, none⟩ = some (.int .i64 (pre.length : Int))
  bad : ∃ ini x ls, pre = ini ++ [x] ∧ linesOf ini = some ls ∧ sayOf x = none
  loop : W.heap[w.heap.size + 7]? = some (.loop { rec with state := .done, pending := some .ret })
  defs : W.heap[w.heap.size + 6]? = some (.deferred (some []))

theorem keeps_below {w W W' : World} {n : Nat} (h : Keeps [] w W) (hb : Below n W W') (hn : w.heap.size ≤ n) : Keeps [] w W' :=
  ⟨hb.os.trans h.os, hb.tape.trans h.tape, hb.output.trans h.output, Nat.le_trans h.size hb.size, fun k hk _ => (hb.block k (by omega)).trans (h.block k hk (by simp))⟩
/-- a round that has left by a return -/
theorem round_left {w V4 Z : World} {rec : Loop} {pre : List (List UInt8)} {x s : List UInt8} {ls : List Ln} {a : Act} (hkw : Keeps [] w V4) (hl : V4.heap[w.heap.size + 7]? = some (.loop { rec with state := .busy })) (hd : V4.heap[w.heap.size + 6]? = some (.deferred (some []))) (hls : linesOf pre = some ls) (hx : sayOf x = none)
    (hk : Keeps [w.heap.size, w.heap.size + 1] V4 Z) (r1 : Z.cell? ⟨w.heap.size, 0, none⟩ = some (.slice none 0 0)) (r2 : Z.cell? ⟨w.heap.size + 1, 0, none⟩ = some (.int .i64 ((pre.length : Int) + 1))) :
    roundPost Tryz.prog (w.heap.size + 6 + 1) (fun e W' => (e = .returned (.bool true) ∧ Jn w 0 rec (pre ++ [x]) W' ∧ Caps W' (w.heap.size + 4) (w.heap.size + 3) (w.heap.size + 5) s) ∨ (e = .returned (.bool false) ∧ Jd w 0 rec (pre ++ [x]) W')) .ret a Z := by
  have hlZ := (hk.block _ (Array.getElem?_eq_some_iff.1 hl).1 (by simp)).trans hl
  have hdZ := (hk.block _ (Array.getElem?_eq_some_iff.1 hd).1 (by simp)).trans hd
  have hlt := (Array.getElem?_eq_some_iff.1 hlZ).1
  refine ⟨_, _, run_endRound (P := Tryz.prog) (some .ret) hlZ, .inr ⟨rfl, ?_⟩⟩
  have hk2 : Keeps [w.heap.size + 7] Z (Z.putObj (w.heap.size + 7) (.loop { rec with state := .done, pending := some .ret })) := keeps_put _
  refine ⟨keeps_far (keeps_far hkw hk (by simp)) hk2 (by simp), hk2.cell r1 (by simp), ?_, ⟨pre, x, ls, rfl, hls, hx⟩, World.putObj_heap_same hlt, (hk2.block _ (by omega) (by simp)).trans hdZ⟩
  have := hk2.cell r2 (by simp)
  simpa using this

/-- a round that goes on -/
theorem round_on {w V V2 V3 : World} {rec : Loop} {pre : List (List UInt8)} {x s : List UInt8} {u u' : Value} {a : Act} (hkw : Keeps [] w V) (hl : V.heap[w.heap.size + 7]? = some (.loop { rec with state := .busy })) (hrs : rec.state = .ready) (hrp : rec.pending = none) (hd : V.heap[w.heap.size + 6]? = some (.deferred (some []))) (hc : Caps V (w.heap.size + 4) (w.heap.size + 3) (w.heap.size + 5) s)
    (hsz : w.heap.size + 8 ≤ V.heap.size) (hk2 : Keeps [] V V2) (hb : Below (w.heap.size + 8) V2 V3)
    (t0 : V3.cell? ⟨w.heap.size, 0, none⟩ = some (.slice none 0 0)) (t1 : V3.cell? ⟨w.heap.size + 1, 0, none⟩ = some (.int .i64 0)) (t2 : V3.cell? ⟨w.heap.size + 1 + 1, 0, none⟩ = some u) (y0 : V3.frozen? ⟨w.heap.size, 0, none⟩ = false) (y1 : V3.frozen? ⟨w.heap.size + 1, 0, none⟩ = false) (y2 : V3.frozen? ⟨w.heap.size + 1 + 1, 0, none⟩ = false)
    (hL : ∃ ls, linesOf (pre ++ [x]) = some ls ∧ LinesAt V3 (w.heap.size + 8) u' ls) :
    roundPost Tryz.prog (w.heap.size + 6 + 1) (fun e W' => (e = .returned (.bool true) ∧ Jn w 0 rec (pre ++ [x]) W' ∧ Caps W' (w.heap.size + 4) (w.heap.size + 3) (w.heap.size + 5) s) ∨ (e = .returned (.bool false) ∧ Jd w 0 rec (pre ++ [x]) W')) .normal a (V3.setCell ⟨w.heap.size + 1 + 1, 0, none⟩ u') := by
  have hs2 := hk2.size
  have hs3 := hb.size
  obtain ⟨V4, hV4⟩ : ∃ V4, V4 = V3.setCell ⟨w.heap.size + 1 + 1, 0, none⟩ u' := ⟨_, rfl⟩
  rw [← hV4]
  have hk4 : Keeps [w.heap.size + 2] V3 V4 := by rw [hV4]; exact (Keeps.refl _ _).setCell _ (Or.inl (by simp)) _
  have c2 : V4.cell? ⟨w.heap.size + 2, 0, none⟩ = some u' := by rw [hV4]; exact cell_set t2
  have z2 : V4.frozen? ⟨w.heap.size + 2, 0, none⟩ = false := by rw [hV4, World.frozen?_setCell]; exact y2
  have blk : ∀ k, k < w.heap.size + 8 → k ≠ w.heap.size + 2 → V4.heap[k]? = V.heap[k]? := fun k h1 h2 => by
    rw [hk4.block k (by omega) (by simpa using h2), hb.block k h1, hk2.block k (by omega) (by simp)]
  have hl4 : V4.heap[w.heap.size + 7]? = some (.loop { rec with state := .busy }) := (blk _ (by omega) (by omega)).trans hl
  have hd4 : V4.heap[w.heap.size + 6]? = some (.deferred (some [])) := (blk _ (by omega) (by omega)).trans hd
  have cel : ∀ (p : Addr) (v : Value), p.block < w.heap.size + 8 → p.block ≠ w.heap.size + 2 → V.cell? p = some v → V4.cell? p = some v := fun p v h1 h2 hv => by
    rw [World.cell?_of_block (w := V) (blk p.block h1 h2)]; exact hv
  have fr : ∀ (p : Addr), p.block < w.heap.size + 8 → p.block ≠ w.heap.size + 2 → V4.frozen? p = V.frozen? p := fun p h1 h2 => World.frozen?_of_block (w := V) (blk p.block h1 h2)
  have hkw4 : Keeps [] w V4 := keeps_far (keeps_below (keeps_far hkw hk2 (by simp)) hb (by omega)) hk4 (by simp)
  have hlt := (Array.getElem?_eq_some_iff.1 hl4).1
  obtain ⟨ls, hls, hLs⟩ := hL
  have hrec : ({ rec with state := .ready, pending := none } : Loop) = rec := by cases rec; simp_all
  refine ⟨_, _, run_endRound (P := Tryz.prog) none hl4, .inl ⟨rfl, ?_, ?_⟩⟩
  all_goals
    have hk5 : Keeps [w.heap.size + 7] V4 (V4.putObj (w.heap.size + 7) (.loop rec)) := keeps_put _
    simp only [Option.isNone_none, if_true, hrec]
  · refine ⟨keeps_far hkw4 hk5 (by simp), hk5.cell (hk4.cell t0 (by simp)) (by simp), hk5.cell (hk4.cell t1 (by simp)) (by simp), (hk5.frozen (by simp; omega) (by simp)).trans ((hk4.frozen (by simp; omega) (by simp)).trans y0), (hk5.frozen (by simp; omega) (by simp)).trans ((hk4.frozen (by simp; omega) (by simp)).trans y1), (hk5.frozen (by simp; omega) (by simp)).trans z2, ⟨u', ls, hls, hk5.cell c2 (by simp), (hLs.keeps hk4 (by simp)).keeps hk5 (by simp)⟩, World.putObj_heap_same hlt, (hk5.block _ (by omega) (by simp)).trans hd4⟩
  · exact ⟨hk5.cell (cel _ _ (by simp) (by simp) hc.sep) (by simp), hk5.cell (cel _ _ (by simp) (by simp) hc.rest) (by simp), hk5.cell (cel _ _ (by simp) (by simp) hc.save) (by simp), (hk5.frozen (by simp; omega) (by simp)).trans ((fr _ (by simp) (by simp)).trans hc.free)⟩

set_option maxRecDepth 100000 in
set_option maxHeartbeats 2000000 in
theorem readLines_any {w : World} (hG : Glob w) (t : List UInt8) (ht : t.length ≤ 1000) :
    Calls Tryz.prog 26 #[.string (mk t)] w fun e w' => Keeps [] w w' ∧ LinesIs w.heap.size t e w' := by
  refine (callsIn_wide (n := 5)).1 ?_
  refine callsIn_of_wp_marks Tryz.func26 rfl trivial ?_ rfl
  simp only [Tryz.ntmps26, List.size_toArray, List.length_cons, List.length_nil, Nat.reduceAdd, Nat.reduceSub, Array.replicate_succ, Array.replicate_zero, List.push_toArray, List.append_toArray, List.nil_append, List.cons_append]
  gi_wp2_with (refine ⟨trivial, ?_⟩; gi_at_call 62; refine (callsIn_wide.2 (splitSeq_any (mk t))).mono ?_; rintro e w' ⟨rfl, rfl⟩)
  obtain ⟨W0, hW0⟩ : ∃ W0, W0 = ((((((w.alloc (Obj.cells #[Value.slice none 0 0] 79)).alloc (Obj.cells #[Value.int IntKind.i64 0] 3)).alloc (Obj.cells #[Value.slice none 0 0] 79)).alloc (Obj.cells #[Value.string (mk t)] 9)).alloc (Obj.cells #[Value.string { data := #[10] }] 9)).alloc (Obj.cells #[Value.int IntKind.i64 0] 3)) := ⟨_, rfl⟩
  rw [← hW0]
  have hB : W0 = boxes w [(.slice none 0 0, 79), (.int .i64 0, 3), (.slice none 0 0, 79), (.string (mk t), 9), (.string ⟨#[10]⟩, 9), (.int .i64 0, 3)] := hW0
  have hz : W0.heap.size = w.heap.size + 6 := by rw [hB]; exact (boxes_old (w := w) _ _).2
  have hk0 : Keeps [] w W0 := by rw [hB]; exact (boxes_old (w := w) _ _).1
  obtain ⟨a1, b1⟩ : W0.cell? ⟨w.heap.size, 0, none⟩ = some (.slice none 0 0) ∧ W0.frozen? ⟨w.heap.size, 0, none⟩ = false := by rw [hB]; exact boxes_at _ _ 0 _ _ rfl
  obtain ⟨a2, b2⟩ : W0.cell? ⟨w.heap.size + 1, 0, none⟩ = some (.int .i64 0) ∧ W0.frozen? ⟨w.heap.size + 1, 0, none⟩ = false := by rw [hB]; exact boxes_at _ _ 1 _ _ rfl
  obtain ⟨a3, b3⟩ : W0.cell? ⟨w.heap.size + 2, 0, none⟩ = some (.slice none 0 0) ∧ W0.frozen? ⟨w.heap.size + 2, 0, none⟩ = false := by rw [hB]; exact boxes_at _ _ 2 _ _ rfl
  obtain ⟨a4, b4⟩ : W0.cell? ⟨w.heap.size + 3, 0, none⟩ = some (.string (mk t)) ∧ W0.frozen? ⟨w.heap.size + 3, 0, none⟩ = false := by rw [hB]; exact boxes_at _ _ 3 _ _ rfl
  obtain ⟨a5, _⟩ : W0.cell? ⟨w.heap.size + 4, 0, none⟩ = some (.string ⟨#[10]⟩) ∧ W0.frozen? ⟨w.heap.size + 4, 0, none⟩ = false := by rw [hB]; exact boxes_at _ _ 4 _ _ rfl
  obtain ⟨a6, _⟩ : W0.cell? ⟨w.heap.size + 5, 0, none⟩ = some (.int .i64 0) ∧ W0.frozen? ⟨w.heap.size + 5, 0, none⟩ = false := by rw [hB]; exact boxes_at _ _ 5 _ _ rfl
  clear hB
  clear hW0
  refine range_wide rfl (enters_of Tryz.func172 (by kernel_rfl) rfl) (by omega) (fun fn rec e1 e2 e3 e4 e5 e6 e7 => ?_)
  have hp1 := (pieces_few t []).1
  have hp2 := (pieces_few t []).2
  obtain ⟨W1, hW1⟩ : ∃ W1, W1 = (W0.alloc (.deferred (some []))).alloc (.loop rec) := ⟨_, rfl⟩
  have hk1 : Keeps [] W0 W1 := by rw [hW1]; exact ((Keeps.refl _ _).alloc _).alloc _
  have hl1 : W1.heap[w.heap.size + 7]? = some (.loop rec) := by
    rw [hW1]; have := World.alloc_heap_new (W0.alloc (.deferred (some []))) (.loop rec); rwa [World.size_alloc, hz] at this
  have hd1 : W1.heap[w.heap.size + 6]? = some (.deferred (some [])) := by
    rw [hW1, ← hz]; exact (Below.heap_alloc _ _ _ (by simp)).trans (World.alloc_heap_new W0 _)
  rw [← hW1, hz]
  have hJ0 : Jn w 0 rec [] W1 := ⟨hk0.trans hk1, hk1.cell a1 (by simp), hk1.cell a2 (by simp), (hk1.frozen (by simp; omega) (by simp)).trans b1, (hk1.frozen (by simp; omega) (by simp)).trans b2, (hk1.frozen (by simp; omega) (by simp)).trans b3, ⟨.slice none 0 0, [], rfl, hk1.cell a3 (by simp), LinesAt.nil _ _⟩, hl1, hd1⟩
  refine (seq_in 4 (by omega) (w.heap.size + 6 + 1) (w.heap.size + 4) (w.heap.size + 3) (w.heap.size + 5) (by omega) (by omega) t ht (Jn w 0 rec) (Jd w 0 rec) ?_ ?_ W1 ⟨hk1.cell a5 (by simp), hk1.cell a4 (by simp), hk1.cell a6 (by simp), (hk1.frozen (by simp; omega) (by simp)).trans b4⟩ hJ0).mono ?_
  · intro pre W v hJ
    exact hJ.on ((Keeps.refl [w.heap.size + 3] W).setCell _ (Or.inl (by simp)) _) (by simp)
  · intro pre x rest W hp hJ s hc
    have hl := hJ.loop
    have hy := run_yield (P := Tryz.prog) (args := #[.string (mk x)]) hl (by rw [e5]; rfl)
    rw [e3, e4, e5, e6, e7] at hy
    refine ⟨fn, _, _, _, hy, roundIn_of_wpIn trivial ?_⟩
    simp only [List.zip_toArray, List.zip_cons_cons, List.zip_nil_right]
    gi_wp2
    obtain ⟨V, hV⟩ : ∃ V, V = W.putObj (w.heap.size + 6 + 1) (.loop { rec with state := .busy }) := ⟨_, rfl⟩
    refine ⟨V, by rw [hV]; exact run_beginRound hl e1, ?_⟩
    have hkV : Keeps [w.heap.size + 7] W V := by rw [hV]; exact keeps_put _
    have hlV : V.heap[w.heap.size + 7]? = some (.loop { rec with state := .busy }) := by rw [hV]; exact World.putObj_heap_same (Array.getElem?_eq_some_iff.1 hl).1
    obtain ⟨v, ls, hls, hbox, hL⟩ := hJ.lines
    obtain ⟨va, vn, vc, rfl⟩ := hL.slice
    have hxm : x ∈ pieces [] t := by rw [hp]; simp
    have hxl : (mk x).size ≤ 1000 := by rw [mk_size]; have := hp2 x hxm; simp at this; omega
    have hpl : pre.length ≤ 1000 := by
      have := congrArg List.length hp
      simp at this; omega
    have hlen := linesOf_len hls
    have hkwV : Keeps [] w V := keeps_far hJ.keeps hkV (by simp)
    have c0 : V.cell? ⟨w.heap.size, 0, none⟩ = some (.slice none 0 0) := hkV.cell hJ.r1 (by simp)
    have c1 : V.cell? ⟨w.heap.size + 1, 0, none⟩ = some (.int .i64 0) := hkV.cell hJ.r2 (by simp)
    have c2 : V.cell? ⟨w.heap.size + 1 + 1, 0, none⟩ = some (.slice va vn vc) := hkV.cell hbox (by simp)
    have f0 : V.frozen? ⟨w.heap.size, 0, none⟩ = false := (hkV.frozen (cell_lt' hJ.r1) (by simp)).trans hJ.g1
    have f1 : V.frozen? ⟨w.heap.size + 1, 0, none⟩ = false := (hkV.frozen (cell_lt' hJ.r2) (by simp)).trans hJ.g2
    have f2 : V.frozen? ⟨w.heap.size + 1 + 1, 0, none⟩ = false := (hkV.frozen (cell_lt' hbox) (by simp)).trans hJ.g3
    have hLV := hL.keeps hkV (by simp)
    have hcV : Caps V (w.heap.size + 4) (w.heap.size + 3) (w.heap.size + 5) s := ⟨hkV.cell hc.sep (by simp), hkV.cell hc.rest (by simp), hkV.cell hc.save (by simp), (hkV.frozen (cell_lt' hc.rest) (by simp)).trans hc.free⟩
    have hdV : V.heap[w.heap.size + 6]? = some (.deferred (some [])) := (hkV.block _ (Array.getElem?_eq_some_iff.1 hJ.defs).1 (by simp)).trans hJ.defs
    have HLn : Hid (Calls Tryz.prog 63 #[.string (mk x)] V fun e w' => Keeps [] V w' ∧ LineIs V.heap.size (sayOf (bl (mk x))) e w') := readLine_any (hG.keeps hkwV) (mk x) hxl
    rw [bl_mk] at HLn
    have hszV : w.heap.size + 8 ≤ V.heap.size := by have := (Array.getElem?_eq_some_iff.1 hlV).1; omega
    obtain ⟨i0, hi0, hz0, hz1, hz2⟩ := info_parts infoLine
    have hml : 2000000 < maxLen := by decide
    clear hV hy
    cases hsay : sayOf x with
    | none =>
      have HS : Hid (sayOf x = none) := hsay
      clear hsay
      gi_wp2_with fail
      refine ⟨trivial, ?_⟩
      refine (CallsIn.inRound _ (callsIn_wide.2 HLn.out)).mono ?_
      rintro e V2 ⟨hk2, hli⟩
      obtain ⟨lk, lnn, lf, la, lm, lc, rfl⟩ := hli.no HS.out
      clear hli
      have hsz2 := hk2.size
      have q2 : w.heap.size + 1 + 1 < V2.heap.size := by omega
      have q1 : w.heap.size + 1 < V2.heap.size := by omega
      have q0 : w.heap.size < V2.heap.size := by omega
      have d2 := hk2.cell c2 (by simp)
      have d0 := hk2.cell c0 (by simp)
      have d1 := hk2.cell c1 (by simp)
      have g0 := (hk2.frozen (cell_lt' c0) (by simp)).trans f0
      have g1 := (hk2.frozen (cell_lt' c1) (by simp)).trans f1
      have g2 := (hk2.frozen (cell_lt' c2) (by simp)).trans f2
      obtain ⟨ms, hms, hrow, hpost⟩ := hLV.keeps hk2 (by simp)
      gi_wp2_with (first
        | (gi_at_builtin; refine wpListIn_append_own _ rfl _ _ 79 rfl (w.heap.size + 8) 139 i0 _ 4 64 Tryz.underlying79 hi0 hz0 hz1 hz2 rfl (by decide) _ ls.length (flatL ls ms) rfl ((hrow.alloc _).alloc _) ⟨V2.heap.size + 1, 0, none⟩ 1 1 [.int .i64 lk, .string lnn, .string lf, .slice la lm lc] rfl rfl (cells_new1 _ _ _ _) (by simp [Value.oneCell']) (by omega) (by omega) (by simp; omega) ?_; intro v' V3 hown' hgrow hnil; obtain ⟨g', cap', rfl⟩ := own_slice hown'; have hb3 := below_app (show w.heap.size + 8 ≤ V2.heap.size by omega) hgrow (fun k hk' => (hrow.lt k hk').1); have t2 := (hb3.cell (p := ⟨w.heap.size + 1 + 1, 0, none⟩) (by simp)).trans d2; have t0 := (hb3.cell (p := ⟨w.heap.size, 0, none⟩) (by simp)).trans d0; have t1 := (hb3.cell (p := ⟨w.heap.size + 1, 0, none⟩) (by simp)).trans d1; have y0 := (hb3.frozen (p := ⟨w.heap.size, 0, none⟩) (by simp)).trans g0; have y1 := (hb3.frozen (p := ⟨w.heap.size + 1, 0, none⟩) (by simp)).trans g1; have y2 := (hb3.frozen (p := ⟨w.heap.size + 1 + 1, 0, none⟩) (by simp)).trans g2)
        | fail)
      obtain ⟨V4, hV4⟩ : ∃ V4, V4 = V3.setCell ⟨w.heap.size + 1 + 1, 0, none⟩ (.slice (some ⟨g', 0, none⟩) (pre.length + 1) cap') := ⟨_, rfl⟩
      rw [← hV4]
      have u2 : V4.cell? ⟨w.heap.size + 1 + 1, 0, none⟩ = some (.slice (some ⟨g', 0, none⟩) (pre.length + 1) cap') := by rw [hV4]; exact cell_set t2
      have u1 : V4.cell? ⟨w.heap.size + 1, 0, none⟩ = some (.int .i64 0) := by rw [hV4]; exact (cell_off (by simp)).trans t1
      have u0 : V4.cell? ⟨w.heap.size, 0, none⟩ = some (.slice none 0 0) := by rw [hV4]; exact (cell_off (by simp)).trans t0
      have x1 : V4.frozen? ⟨w.heap.size + 1, 0, none⟩ = false := by rw [hV4, World.frozen?_setCell]; exact y1
      have x0 : V4.frozen? ⟨w.heap.size, 0, none⟩ = false := by rw [hV4, World.frozen?_setCell]; exact y0
      have hb4 : Below (w.heap.size + 8) V2 V3 := hb3
      have hlt2 : w.heap.size + 8 ≤ V2.heap.size := by omega
      have hl4 : V4.heap[w.heap.size + 7]? = some (.loop { rec with state := .busy }) := by
        rw [hV4, Below.heap_setCell _ _ _ _ (by simp), hb4.block _ (by omega), hk2.block _ (by omega) (by simp)]; exact hlV
      have hd4 : V4.heap[w.heap.size + 6]? = some (.deferred (some [])) := by
        rw [hV4, Below.heap_setCell _ _ _ _ (by simp), hb4.block _ (by omega), hk2.block _ (by omega) (by simp)]; exact hdV
      have hkw4 : Keeps [] w V4 := by
        rw [hV4]
        exact keeps_far (keeps_below (keeps_far hkwV hk2 (by simp)) hb4 (by omega)) ((Keeps.refl [w.heap.size + 2] V3).setCell _ (Or.inl (by simp)) _) (by simp)
      clear hV4
      gi_region
      all_goals gi_wp2
      all_goals
        refine round_left (V4 := V4) (s := s) (hkw4) hl4 hd4 hls HS.out ?_ ?_ ?_
        · first
            | exact (((Keeps.refl _ V4).setCell _ (Or.inl (by simp)) _).setCell _ (Or.inl (by simp)) _).drew
            | exact (((Keeps.refl _ V4).drew).setCell _ (Or.inl (by simp)) _).setCell _ (Or.inl (by simp)) _
        · first
            | exact (cell_off (by simp)).trans (cell_set u0)
            | exact cell_set ((cell_off (by simp)).trans u0)
        · first
            | exact (cell_off (by simp)).trans (cell_set u1)
            | exact cell_set ((cell_off (by simp)).trans u1)
    | some ln =>
      have HS : Hid (sayOf x = some ln) := hsay
      clear hsay
      gi_wp2_with fail
      refine ⟨trivial, ?_⟩
      refine (CallsIn.inRound _ (callsIn_wide.2 HLn.out)).mono ?_
      rintro e V2 ⟨hk2, hli⟩
      obtain ⟨la, lm, lc, rfl, hWl⟩ := hli.yes HS.out
      clear hli
      have hsz2 := hk2.size
      have q2 : w.heap.size + 1 + 1 < V2.heap.size := by omega
      have q1 : w.heap.size + 1 < V2.heap.size := by omega
      have q0 : w.heap.size < V2.heap.size := by omega
      have d2 := hk2.cell c2 (by simp)
      have d0 := hk2.cell c0 (by simp)
      have d1 := hk2.cell c1 (by simp)
      have g0 := (hk2.frozen (cell_lt' c0) (by simp)).trans f0
      have g1 := (hk2.frozen (cell_lt' c1) (by simp)).trans f1
      have g2 := (hk2.frozen (cell_lt' c2) (by simp)).trans f2
      have hL2 := hLV.keeps hk2 (by simp)
      have hL2' := hL2
      obtain ⟨ms, hms, hrow, hpost⟩ := hL2'
      gi_wp2_with (first
        | (gi_at_builtin; refine wpListIn_append_own _ rfl _ _ 79 rfl (w.heap.size + 8) 139 i0 _ 4 64 Tryz.underlying79 hi0 hz0 hz1 hz2 rfl (by decide) _ ls.length (flatL ls ms) rfl ((hrow.alloc _).alloc _) ⟨V2.heap.size + 1, 0, none⟩ 1 1 [.int .i64 (ln.kind : Int), .string ln.name, .string ln.first, .slice la lm lc] rfl rfl (cells_new1 _ _ _ _) (by simp [Value.oneCell']) (by omega) (by omega) (by simp; omega) ?_; intro v' V3 hown' hgrow hnil; obtain ⟨g', cap', rfl⟩ := own_slice hown'; have hb3 := below_app (show w.heap.size + 8 ≤ V2.heap.size by omega) hgrow (fun k hk' => (hrow.lt k hk').1); have t2 := (hb3.cell (p := ⟨w.heap.size + 1 + 1, 0, none⟩) (by simp)).trans d2; have t0 := (hb3.cell (p := ⟨w.heap.size, 0, none⟩) (by simp)).trans d0; have t1 := (hb3.cell (p := ⟨w.heap.size + 1, 0, none⟩) (by simp)).trans d1; have y0 := (hb3.frozen (p := ⟨w.heap.size, 0, none⟩) (by simp)).trans g0; have y1 := (hb3.frozen (p := ⟨w.heap.size + 1, 0, none⟩) (by simp)).trans g1; have y2 := (hb3.frozen (p := ⟨w.heap.size + 1 + 1, 0, none⟩) (by simp)).trans g2)
        | fail)
      refine round_on (V := V) (V2 := V2) (V3 := V3) (s := s) hkwV hlV e1 e2 hdV hcV hszV hk2 hb3 t0 t1 t2 y0 y1 y2 ⟨_, by rw [linesOf_append, hls]; simp [linesOf, HS.out]; rfl, ?_⟩
      rw [← hlen]
      exact hL2.snoc (hWl.base (by omega)) ms hms hpost hrow hown' hgrow
  · rintro e W2 ⟨⟨v, rfl⟩, hJ | ⟨pre, x, rest, hp, hJ⟩⟩
    · obtain ⟨v, ls, h1, h2, h3⟩ := hJ.lines
      obtain ⟨va, vn, vc, rfl⟩ := h3.slice
      refine ⟨none, _, by have := run_endLoop (P := Tryz.prog) hJ.loop (by rw [e1]; decide); rw [e2] at this; exact this, ?_⟩
      obtain ⟨W3, hW3⟩ : ∃ W3, W3 = W2.putObj (w.heap.size + 7) (.loop { rec with state := .exhausted, pending := none }) := ⟨_, rfl⟩
      have hk3 : Keeps [w.heap.size + 7] W2 W3 := by rw [hW3]; exact keeps_put _
      rw [← hW3]
      have hd3 : W3.heap[w.heap.size + 6]? = some (.deferred (some [])) := (hk3.block _ (Array.getElem?_eq_some_iff.1 hJ.defs).1 (by simp)).trans hJ.defs
      have k0 : W3.cell? ⟨w.heap.size, 0, none⟩ = some (.slice none 0 0) := hk3.cell hJ.r1 (by simp)
      have k1 : W3.cell? ⟨w.heap.size + 1, 0, none⟩ = some (.int .i64 0) := hk3.cell hJ.r2 (by simp)
      have k2 : W3.cell? ⟨w.heap.size + 1 + 1, 0, none⟩ = some (.slice va vn vc) := hk3.cell h2 (by simp)
      have f0 : W3.frozen? ⟨w.heap.size, 0, none⟩ = false := (hk3.frozen (cell_lt' hJ.r1) (by simp)).trans hJ.g1
      have f1 : W3.frozen? ⟨w.heap.size + 1, 0, none⟩ = false := (hk3.frozen (cell_lt' hJ.r2) (by simp)).trans hJ.g2
      have hL3 : LinesAt W3 (w.heap.size + 8) (.slice va vn vc) ls := h3.keeps hk3 (by simp)
      have hkw : Keeps [] w W3 := keeps_far hJ.keeps hk3 (by simp)
      clear hW3
      dsimp only
      gi_wp2
      obtain ⟨W4, hW4⟩ : ∃ W4, W4 = (W3.setCell ⟨w.heap.size, 0, none⟩ (.slice va vn vc)).setCell ⟨w.heap.size + 1, 0, none⟩ (.int .i64 0) := ⟨_, rfl⟩
      rw [← hW4]
      have hk4 : Keeps [w.heap.size, w.heap.size + 1] W3 W4 := by rw [hW4]; exact ((Keeps.refl _ _).setCell _ (Or.inl (by simp)) _).setCell _ (Or.inl (by simp)) _
      have hd4 : W4.heap[w.heap.size + 6]? = some (.deferred (some [])) := (hk4.block _ (Array.getElem?_eq_some_iff.1 hd3).1 (by simp)).trans hd3
      have m0 : W4.cell? ⟨w.heap.size, 0, none⟩ = some (.slice va vn vc) := by rw [hW4]; exact (cell_off (by simp)).trans (cell_set k0)
      have m1 : W4.cell? ⟨w.heap.size + 1, 0, none⟩ = some (.int .i64 0) := by rw [hW4]; exact cell_set ((cell_off (by simp)).trans k1)
      refine ⟨by simp, .inl ⟨_, _, rfl, run_takeDeferred hd4, ?_⟩⟩
      have hk5 : Keeps [w.heap.size + 6] W4 (W4.putObj (w.heap.size + 6) (.deferred none)) := keeps_put _
      have n0 := hk5.cell m0 (by simp)
      have n1 := hk5.cell m1 (by simp)
      have hL5 := (hL3.keeps hk4 (by simp)).keeps hk5 (by simp)
      have hkw5 := keeps_far (keeps_far hkw hk4 (by simp)) hk5 (by simp)
      refine ⟨.tuple #[.slice va vn vc, .int .i64 0], by simp [results, Tryz.results26, go_sem, n0, n1], hkw5, ?_⟩
      unfold LinesIs
      rw [h1]
      exact ⟨va, vn, vc, rfl, hL5.base (by omega), by rw [linesOf_len h1]; omega⟩
    · obtain ⟨W3, hW3⟩ : ∃ W3, W3 = W2.putObj (w.heap.size + 7) (.loop { rec with state := .exhausted, pending := some .ret }) := ⟨_, rfl⟩
      refine ⟨some .ret, W3, by rw [hW3]; exact run_endLoop (P := Tryz.prog) hJ.loop (by simp), ?_⟩
      have hk3 : Keeps [w.heap.size + 7] W2 W3 := by rw [hW3]; exact keeps_put _
      clear hW3
      have hd3 : W3.heap[w.heap.size + 6]? = some (.deferred (some [])) := (hk3.block _ (Array.getElem?_eq_some_iff.1 hJ.defs).1 (by simp)).trans hJ.defs
      have k0 : W3.cell? ⟨w.heap.size, 0, none⟩ = some (.slice none 0 0) := hk3.cell hJ.r1 (by simp)
      have k1 := hk3.cell hJ.r2 (by simp)
      have hkw : Keeps [] w W3 := keeps_far hJ.keeps hk3 (by simp)
      dsimp only
      gi_wp2
      refine ⟨by simp, .inl ⟨_, _, rfl, run_takeDeferred hd3, ?_⟩⟩
      have hk5 : Keeps [w.heap.size + 6] W3 (W3.putObj (w.heap.size + 6) (.deferred none)) := keeps_put _
      have n0 := hk5.cell k0 (by simp)
      have n1 := hk5.cell k1 (by simp)
      have hkw5 := keeps_far hkw hk5 (by simp)
      refine ⟨.tuple #[.slice none 0 0, .int .i64 ((pre ++ [x]).length : Int)], by simp [results, Tryz.results26, go_sem, n0, n1], hkw5, ?_⟩
      obtain ⟨ini, y, ls, hi1, hi2, hi3⟩ := hJ.bad
      obtain ⟨rfl, hy⟩ := List.append_inj' hi1 rfl
      cases hy
      have hw := wrongAt_at (r := rest) hi2 hi3
      unfold LinesIs
      rw [hp, hw.1, hw.2]
      simp

end Go.Proofs.YtmgjegokkbghlaaGreatDoor
