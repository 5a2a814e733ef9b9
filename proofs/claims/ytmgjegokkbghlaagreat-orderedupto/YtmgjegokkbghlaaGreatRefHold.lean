/- The document's store in memory: hold, Nodes. The document's store in memory: Count of nothing. The document's store: New. -/
import Derived.Test.YtmgjegokkbghlaaGreatRefStore
import Derived.Deep.AppendLies
import Derived.Deep.RegionHeld3
import Derived.Deep.RegionLaw
import Derived.Maps.AppendAt
namespace Go.Proofs.YtmgjegokkbghlaaGreat
open Go.RowKit Go.Maps Bdd
attribute [local go_sem ↓] Go.wp_at_zero Go.wp_at_succ

theorem infoHeld : (Tryz.prog.info? 73).map (fun i => (i.zero, i.size, i.bytes)) = some (some (.agg #[.int .i64 0, .string ByteArray.empty]), 2, 24) := by kernel_rfl

/-- A STORE OF THE DOCUMENT'S: its five fields, the order as a list, what is held. -/
structure RSt (w : World) (r n : Nat) (lim la : Int) (ov lv : Value) (o : Ord n) (hs : List (Int × ByteArray)) : Prop where
  c0 : w.cell? ⟨r, 0, none⟩ = some (.int .i64 (n : Int))
  c1 : w.cell? ⟨r, 1, none⟩ = some (.int .i64 lim)
  c2 : w.cell? ⟨r, 2, none⟩ = some (.int .i64 la)
  c3 : w.cell? ⟨r, 3, none⟩ = some ov
  fr : ∀ j, w.frozen? ⟨r, j, none⟩ = false
  held : Held w r lv hs
  ord : ∃ ob cap, ov = .slice (some ⟨ob, 0, none⟩) n cap ∧ ob ≠ r ∧ lv.ownBlock ≠ some ob ∧ ∀ k : Nat, k < n → w.cell? ⟨ob, 0 + k, none⟩ = some (.int .i64 (o.at_ (k : Int)))
  lr : lv.ownBlock ≠ some r

/-- handles and names as handles and texts -/
def hT {n : Nat} (N : Tab) (o : Ord n) (ns : List (Int × Int)) : List (Int × ByteArray) := ns.map fun p => (p.1, T N o p.2)
theorem hT_texts {n : Nat} (N : Tab) (o : Ord n) (ns : List (Int × Int)) : texts (hT N o ns) = ((ns.map (·.2)).map (T N o)).map Value.string := by simp [texts, hT]
theorem hT_length {n : Nat} (N : Tab) (o : Ord n) (ns : List (Int × Int)) : (hT N o ns).length = ns.length := by simp [hT]

theorem row_mono {w : World} {base base' : Nat} {e : TypeId} {size : Nat} {v : Value} {n : Nat} {xs : List Value} (h : w.ownsRow base e size v n xs) (hb : base' ≤ base) : w.ownsRow base' e size v n xs := by
  refine ⟨h.1, ?_⟩
  rcases h.2 with h' | ⟨g, cap, cur, rfl, hbg, rest⟩
  · exact .inl h'
  · exact .inr ⟨g, cap, cur, rfl, by omega, rest⟩

theorem cells_laid (w : World) (C : List Value) (t : TypeId) : ∀ j u, C[j]? = some u → (w.alloc (.cells C.toArray t)).cell? ((⟨w.heap.size, 0, none⟩ : Addr).add j) = some u := by
  intro j u hj
  rw [Addr.add_mid, World.cell?_alloc_at _ _ _ _ rfl]
  simpa using hj

/-- one function more is held: behind the two stores -/
theorem RSt.added {w w3 W w5 : World} {r n : Nat} {lim la : Int} {ov : Value} {a : Option Addr} {m cap : Nat} {o : Ord n} {hs : List (Int × ByteArray)} {S : ByteArray} {g5 cap5 : Nat} (h : RSt w r n lim la ov (.slice a m cap) o hs) (hn0 : 0 < n) (hm : m = hs.length) (k4 : Keeps [] w w3) (hW : W = w3.setCell ⟨r, 2, none⟩ (.int .i64 (la + 1))) (kk : Keeps (Value.slice a m cap).ownBlock.toList W w5) (hown5 : w5.ownsRow 0 73 2 (.slice (some ⟨g5, 0, none⟩) (m + 1) cap5) (m + 1) (flatH hs ++ [.int .i64 (la + 1), .string S])) (hat : (Value.slice a m cap).ownBlock = some g5 ∨ g5 = W.heap.size + 1) :
    RSt (w5.setCell ⟨r, 4, none⟩ (.slice (some ⟨g5, 0, none⟩) (m + 1) cap5)) r n lim (la + 1) ov (.slice (some ⟨g5, 0, none⟩) (m + 1) cap5) o (hs ++ [(la + 1, S)]) ∧ Keeps (r :: (Value.slice a m cap).ownBlock.toList) w (w5.setCell ⟨r, 4, none⟩ (.slice (some ⟨g5, 0, none⟩) (m + 1) cap5)) ∧ ((Value.slice (some ⟨g5, 0, none⟩) (m + 1) cap5).ownBlock = (Value.slice a m cap).ownBlock ∨ ∃ g, (Value.slice (some ⟨g5, 0, none⟩) (m + 1) cap5).ownBlock = some g ∧ w.heap.size ≤ g) := by
  have hr : r ∉ (Value.slice a m cap).ownBlock.toList := by have := h.lr; simpa using this
  have hlr : r < w.heap.size := cell_lt (p := ⟨r, 0, none⟩) h.c0
  have hsW : W.heap.size = w3.heap.size := by rw [hW]; simp [World.setCell]
  have hs3 := k4.size
  have g5r : g5 ≠ r := by
    rcases hat with e | e
    · intro e'; subst e'; exact h.lr e
    · omega
  have hoth : ∀ j v, j ≠ 2 → j ≠ 4 → w.cell? ⟨r, j, none⟩ = some v → (w5.setCell ⟨r, 4, none⟩ (.slice (some ⟨g5, 0, none⟩) (m + 1) cap5)).cell? ⟨r, j, none⟩ = some v := by
    intro j v h2 h4 hc
    rw [World.cell?_setCell_other _ _ _ _ (by intro e; injection e; omega)]
    refine kk.cell ?_ hr
    rw [hW, World.cell?_setCell_other _ _ _ _ (by intro e; injection e; omega)]
    exact k4.cell hc (by simp)
  have x2 : W.cell? ⟨r, 2, none⟩ = some (.int .i64 (la + 1)) := by rw [hW]; exact World.cell?_setCell_same _ _ _ (k4.cell h.c2 (by simp))
  have x4 : W.cell? ⟨r, 4, none⟩ = some (.slice a m cap) := by rw [hW, World.cell?_setCell_other _ _ _ _ (by simp)]; exact k4.cell h.held.c4 (by simp)
  refine ⟨⟨hoth 0 _ (by omega) (by omega) h.c0, hoth 1 _ (by omega) (by omega) h.c1, ?_, hoth 3 _ (by omega) (by omega) h.c3, fun j => ?_, ⟨World.cell?_setCell_same _ _ _ (kk.cell x4 hr), ?_⟩, ?_, ?_⟩, ?_, ?_⟩
  · rw [World.cell?_setCell_other _ _ _ _ (by simp)]
    exact kk.cell x2 hr
  · rw [World.frozen?_setCell, kk.frozen (p := ⟨r, j, none⟩) (by show r < _; omega) hr, hW, World.frozen?_setCell, k4.frozen (p := ⟨r, j, none⟩) hlr (by simp)]
    exact h.fr j
  · rw [flatH_snoc, List.length_append, ← hm]
    refine ownsRow_setCell_other hown5 ?_ _
    show some g5 ≠ some r
    simpa using g5r
  · obtain ⟨ob, ocap, e, h1, h2, h3⟩ := h.ord
    have hlo : ob < w.heap.size := cell_lt (p := ⟨ob, 0 + 0, none⟩) (h3 0 hn0)
    have hob : ob ∉ (Value.slice a m cap).ownBlock.toList := by simpa using h2
    refine ⟨ob, ocap, e, h1, ?_, fun k hk => ?_⟩
    · show some g5 ≠ some ob
      intro e'
      have e' : g5 = ob := by simpa using e'
      rcases hat with e2 | e2
      · exact h2 (by rw [e2, e'])
      · omega
    · rw [World.cell?_setCell_far _ _ _ _ (by simpa using Ne.symm h1)]
      refine kk.cell ?_ hob
      rw [hW, World.cell?_setCell_far _ _ _ _ (by simpa using Ne.symm h1)]
      exact k4.cell (h3 k hk) (by simp)
  · show some g5 ≠ some r
    simpa using g5r
  · refine Keeps.setCell ?_ _ (Or.inl (by simp)) _
    have e1 : Keeps (r :: (Value.slice a m cap).ownBlock.toList) w W := by
      rw [hW]
      exact (k4.mono (by simp)).setCell _ (Or.inl (by simp)) _
    exact e1.trans (kk.mono (fun i hi => by simp only [List.mem_cons]; exact Or.inr hi))
  · rcases hat with e | e
    · exact Or.inl e.symm
    · exact Or.inr ⟨g5, rfl, by omega⟩

section
variable {N : Tab} {last : Int} {n : Nat}

set_option maxRecDepth 100000 in
set_option maxHeartbeats 1000000 in
theorem rhold_many {w : World} {r : Nat} {lim la : Int} {ov lv : Value} {o : Ord n} {hs : List (Int × ByteArray)} (h : RSt w r n lim la ov lv o hs) (hl : 60 ≤ hs.length) (hl' : hs.length ≤ 1000) (S : ByteArray) :
    Calls Tryz.prog 86 #[.pointer (some ⟨r, 0, none⟩), .string S] w fun e w' => e = .returned (.tuple #[.int .i64 0, .int .i64 4]) ∧ w = w' := by
  obtain ⟨a, cap, rfl⟩ := h.held.form
  have c4 := h.held.c4
  obtain ⟨m, hm⟩ : ∃ m, m = hs.length := ⟨_, rfl⟩
  rw [← hm] at c4 hl hl'
  clear hm h
  have hm' : (60 : Int) ≤ (m : Int) := by omega
  go_enter Tryz.func86, Tryz.ntmps86
  go_wp2_with fail
  go_ret2
  exact ⟨rfl, by first | rfl | trivial⟩

/-- the count ahead of a 'hold' -/
def heldCount (N : Tab) (n : Nat) (ns : List (Int × Int)) (y : Int) : Nat := total N n 0 (once [] (ns.map (·.2) ++ [y]))

set_option maxRecDepth 100000 in
set_option maxHeartbeats 1000000 in
theorem rhold_few {w : World} {r : Nat} {lim la : Int} {ov lv : Value} {o : Ord n} {ns : List (Int × Int)} {y : Int} (hw : Wf N (n : Int) last) (hn0 : 0 < n) (hn8 : n ≤ 8) (h : RSt w r n lim la ov lv o (hT N o ns)) (hok : ∀ p ∈ ns, Ok N 0 p.2) (hy : Ok N 0 y) (hl : ns.length < 60) (hla0 : 0 ≤ la) (hla1 : la < 4611686018427387904) :
    Calls Tryz.prog 86 #[.pointer (some ⟨r, 0, none⟩), .string (T N o y)] w fun e w' =>
      if lim < (heldCount N n ns y : Int) then e = .returned (.tuple #[.int .i64 0, .int .i64 5]) ∧ Keeps [] w w'
      else e = .returned (.tuple #[.int .i64 (la + 1), .int .i64 0]) ∧ ∃ lv', RSt w' r n lim (la + 1) ov lv' o (hT N o (ns ++ [(la + 1, y)])) ∧ Keeps (r :: lv.ownBlock.toList) w w' ∧ (lv'.ownBlock = lv.ownBlock ∨ ∃ g, lv'.ownBlock = some g ∧ w.heap.size ≤ g) := by
  obtain ⟨i0, hI0, hz0, hz1, hz2⟩ := info_parts info9
  obtain ⟨j0, hJ0, hy0, hy1, hy2⟩ := info_parts infoHeld
  have hml : 1000000 < maxLen := by decide
  have hlen := hT_length N o ns
  obtain ⟨ob, ocap, eov, hobr, hobl, hord⟩ := h.ord
  subst eov
  obtain ⟨a, cap, elv⟩ := h.held.form
  have c0 := h.c0
  have c1 := h.c1
  have c2 := h.c2
  have c3 := h.c3
  have c4 := h.held.c4
  rw [elv] at c4
  rw [hlen] at c4
  obtain ⟨m, hm⟩ : ∃ m, m = ns.length := ⟨_, rfl⟩
  rw [← hm] at c4 hl
  have hm60 : (m : Int) < 60 := by omega
  have HALL : Hid (∀ w0 : World, Keeps [] w w0 → Calls Tryz.prog 98 #[.pointer (some ⟨r, 0, none⟩)] w0 fun e w' => ∃ v, e = .returned v ∧ w'.ownsRow w.heap.size 9 1 v m (((ns.map (·.2)).map (T N o)).map Value.string) ∧ Keeps [] w0 w' ∧ Keeps [] w w') := by
    intro w0 hk
    refine (rall_any (h.held.keeps hk (by simp) (by simp)) (by omega)).mono ?_
    rintro e w' ⟨v, rfl, ho, hk'⟩
    rw [hlen, ← hm, hT_texts] at ho
    exact ⟨v, rfl, row_mono ho hk.size, hk', hk.trans hk'⟩
  have HST : Hid (RSt w r n lim la (.slice (some ⟨ob, 0, none⟩) n ocap) lv o (hT N o ns)) := h
  have HM : Hid (m = ns.length) := hm
  obtain ⟨S, hS⟩ : ∃ S, S = T N o y := ⟨_, rfl⟩
  rw [← hS]
  have HS : Hid (S = T N o y) := hS
  obtain ⟨C, hC⟩ : ∃ C : Nat, C = heldCount N n ns y := ⟨_, rfl⟩
  rw [← hC]
  have HC : Hid (C = heldCount N n ns y) := hC
  have HCNT : Hid (∀ (w1 : World) (v : Value), Keeps [] w w1 → w1.ownsRow w.heap.size 9 1 v (m + 1) ((((ns.map (·.2)).map (T N o)).map Value.string) ++ [.string S]) → Calls Tryz.prog 97 #[.pointer (some ⟨r, 0, none⟩), v, .slice (some ⟨ob, 0, none⟩) n ocap] w1 fun e w' => e = .returned (.int .i64 (C : Int)) ∧ Keeps [] w1 w') := by
    intro w1 v hk hown
    have hnl : m + 1 = (ns.map (·.2) ++ [y]).length := by simp [hm]
    rcases hown.2 with ⟨_, h0⟩ | ⟨g, cap', cur, rfl, hb, hgg, rest⟩
    · omega
    · refine (rcount_any (n := n) (nm := ns.map (·.2) ++ [y]) hw hn8 o (hk.cell c0 (by simp)) hnl (by omega) (by omega) ?_ ?_ (fun k hk' => hk.cell (hord k hk') (by simp))).mono ?_
      · intro z hz
        simp only [List.mem_append, List.mem_map, List.mem_singleton] at hz
        rcases hz with ⟨p, hp, rfl⟩ | rfl
        · exact hok p hp
        · exact hy
      · intro j hj
        rw [World.ownsRow.cellAt hown j (by omega)]
        have e : ((((ns.map (·.2)).map (T N o)).map Value.string) ++ [.string S]) = ((ns.map (·.2) ++ [y]).map (T N o)).map Value.string := by simp [hS]
        rw [e]
        simp only [List.getElem?_map, List.getElem?_eq_getElem hj, Option.map_some]
      · rintro e w2 ⟨rfl, hk2⟩
        rw [hC]
        exact ⟨rfl, hk2⟩
  clear h hm hS hC hlen hord hok hy hw
  have k0 : Keeps [] w w.drew := (Keeps.refl _ _).drew
  go_enter Tryz.func86, Tryz.ntmps86
  go_wp2_with fail
  go_region_held3 (fun w' => w'.cell? ⟨r, 3, none⟩ = some (.slice (some ⟨ob, 0, none⟩) n ocap) ∧ Keeps [] w w')
    (first | exact ⟨c3, k0⟩ | exact ⟨(k0.alloc _).cell c3 (by simp), k0.alloc _⟩ | exact ⟨k1.cell c3 (by simp), k1⟩ | exact ⟨(k1.alloc _).cell c3 (by simp), k1.alloc _⟩ | exact ⟨k3.cell c3 (by simp), k3⟩ | exact ⟨k4.cell c3 (by simp), k4⟩ | assumption)
    (first
      | (go_at_call 98; refine (HALL.out _ (by first | exact k0 | exact k0.alloc _)).mono ?_; rintro e w1 ⟨v, rfl, hown, hka, k1⟩)
      | (refine step_append_lies _ (by rfl) _ _ _ (by rfl) w.heap.size 9 i0 (.string ByteArray.empty) 1 16 Tryz.underlying123 hI0 hz0 hz1 hz2 (by rfl) (by decide) _ m _ (by rfl) (hown.alloc _) ⟨w1.heap.size, 0, none⟩ 1 1 [.string S] (by rfl) (by rfl) (cell_one_new _ _ _) (by simp [Value.oneCell']) (by omega) (by omega) (by omega) (by have := k1.size; simp; omega) (w1.heap.size + 1) (by simp) ?_; intro g cap2 w2 hown2 hgrow hat hlt; have k3 : Keeps [] w w2 := (k1.alloc _).grown hgrow (fun k hk' => Or.inr (hown.lt k hk').1))
      | (refine step_append_lies _ (by rfl) _ _ _ (by rfl) w.heap.size 9 i0 (.string ByteArray.empty) 1 16 Tryz.underlying123 hI0 hz0 hz1 hz2 (by rfl) (by decide) _ m _ (by rfl) hown ⟨w.heap.size, 0, none⟩ 1 1 [.string S] (by rfl) (by rfl) (fun j u hj => hka.cell (cell_one_new _ _ _ j u hj) (by simp)) (by simp [Value.oneCell']) (by omega) (by omega) (by omega) k1.size _ rfl ?_; intro g cap2 w2 hown2 hgrow hat hlt; have k3 : Keeps [] w w2 := k1.grown hgrow (fun k hk' => Or.inr (hown.lt k hk').1))
      | (go_at_call 97; refine (HCNT.out _ _ k3 hown2).mono ?_; rintro e w3 ⟨rfl, hk4⟩; have k4 := k3.trans hk4))
  all_goals
    have d1 := k4.cell c1 (by simp)
    have d2 := k4.cell c2 (by simp)
    have d4 := k4.cell c4 (by simp)
    have hlr : r < w.heap.size := cell_lt (p := ⟨r, 0, none⟩) c0
    have f2 : w3.frozen? ⟨r, 2, none⟩ = false := by rw [k4.frozen (p := ⟨r, 2, none⟩) hlr (by simp)]; exact HST.out.fr 2
    have f4 : w3.frozen? ⟨r, 4, none⟩ = false := by rw [k4.frozen (p := ⟨r, 4, none⟩) hlr (by simp)]; exact HST.out.fr 4
    clear hown hgrow hat hlt hown2 hka
    by_cases hlim : lim < (C : Int)
    · go_wp2_with fail
      go_ret2
      exact ⟨rfl, k4⟩
    · have hlim' : (C : Int) ≤ lim := by omega
      clear hlim
      go_wp2_with fail
      obtain ⟨W, hW⟩ : ∃ W, W = w3.setCell ⟨r, 2, none⟩ (.int .i64 (la + 1)) := ⟨_, rfl⟩
      have x2 : W.cell? ⟨r, 2, none⟩ = some (.int .i64 (la + 1)) := by rw [hW]; exact World.cell?_setCell_same _ _ _ d2
      have x4 : W.cell? ⟨r, 4, none⟩ = some (.slice a m cap) := by rw [hW, World.cell?_setCell_other _ _ _ _ (by simp)]; exact d4
      have g4 : W.frozen? ⟨r, 4, none⟩ = false := by rw [hW, World.frozen?_setCell]; exact f4
      have hrow : W.ownsRow 0 73 2 (.slice a m cap) m (flatH (hT N o ns)) := by
        have h1 := (HST.out.held.keeps k4 (by simp) (by simp)).own
        rw [elv] at h1
        rw [hT_length, ← HM.out] at h1
        rw [hW]
        refine ownsRow_setCell_other h1 ?_ _
        have h2 := HST.out.lr
        rw [elv, hT_length, ← HM.out] at h2
        exact h2
      have hlW : r < W.heap.size := cell_lt (p := ⟨r, 2, none⟩) x2
      have hrl : r ∉ (Value.slice a m cap).ownBlock.toList := by
        have h2 := HST.out.lr
        rw [elv, hT_length, ← HM.out] at h2
        simpa using h2
      have y2 : W.drew.cell? ⟨r, 2, none⟩ = some (.int .i64 (la + 1)) := x2
      have y4 : W.drew.cell? ⟨r, 4, none⟩ = some (.slice a m cap) := x4
      rw [← hW]
      have HW : Hid (W = w3.setCell ⟨r, 2, none⟩ (.int .i64 (la + 1))) := hW
      clear hW d2 d4 f2 f4
      go_region_law (first
          | (refine step_append_lies _ (by rfl) _ _ _ (by rfl) 0 73 j0 _ 2 24 Tryz.underlying57 hJ0 hy0 hy1 hy2 (by rfl) (by decide) _ m _ (by rfl) (World.ownsRow.alloc (w := W.drew) hrow _) ⟨W.heap.size, 0, none⟩ 1 1 [.int .i64 (la + 1), .string S] (by rfl) (by rfl) (cells_laid _ _ _) (by simp [Value.oneCell']) (by omega) (by omega) (by omega) (by omega) (W.heap.size + 1) (by simp) ?_; intro g5 cap5 w5 hown5 hgrow5 hat5 hlt5; have kk : Keeps (Value.slice a m cap).ownBlock.toList W w5 := (((Keeps.refl _ W).drew).alloc _).grown hgrow5 (fun j hj => Or.inl (by simp [hj])); have e5 : w5.cell? ⟨r, 4, none⟩ = some (.slice a m cap) := kk.cell x4 hrl; have f5 : w5.frozen? ⟨r, 4, none⟩ = false := (by rw [kk.frozen (p := ⟨r, 4, none⟩) hlW hrl]; exact g4)))
      all_goals
        have z2 : (w5.setCell ⟨r, 4, none⟩ (.slice (some ⟨g5, 0, none⟩) (m + 1) cap5)).cell? ⟨r, 2, none⟩ = some (.int .i64 (la + 1)) := by rw [World.cell?_setCell_other _ _ _ _ (by simp)]; exact kk.cell x2 hrl
        have HG : Hid (RSt (w5.setCell ⟨r, 4, none⟩ (.slice (some ⟨g5, 0, none⟩) (m + 1) cap5)) r n lim (la + 1) (.slice (some ⟨ob, 0, none⟩) n ocap) (.slice (some ⟨g5, 0, none⟩) (m + 1) cap5) o (hT N o (ns ++ [(la + 1, y)])) ∧ Keeps (r :: lv.ownBlock.toList) w (w5.setCell ⟨r, 4, none⟩ (.slice (some ⟨g5, 0, none⟩) (m + 1) cap5)) ∧ ((Value.slice (some ⟨g5, 0, none⟩) (m + 1) cap5).ownBlock = lv.ownBlock ∨ ∃ g, (Value.slice (some ⟨g5, 0, none⟩) (m + 1) cap5).ownBlock = some g ∧ w.heap.size ≤ g)) := by
          have h0 := HST.out
          have elv' : lv = .slice a m cap := by rw [elv, hT_length, ← HM.out]
          rw [elv'] at h0 ⊢
          have hd := h0.added hn0 (by rw [hT_length]; exact HM.out) k4 HW.out kk hown5 hat5
          have e : hT N o (ns ++ [(la + 1, y)]) = hT N o ns ++ [(la + 1, S)] := by rw [HS.out]; simp [hT]
          rw [e]
          exact hd
        clear hgrow5 hown5 hat5 kk e5 f5 x2 x4 y2 y4 g4 hrow
        go_wp2_with fail
        go_ret2
        have hg := HG.out
        rw [elv] at hg
        exact ⟨rfl, _, hg⟩

end
end Go.Proofs.YtmgjegokkbghlaaGreat

namespace Go.Proofs.YtmgjegokkbghlaaGreat
open Go.RowKit Go.Maps Bdd
attribute [local go_sem ↓] Go.wp_at_zero Go.wp_at_succ

set_option maxRecDepth 100000 in
set_option maxHeartbeats 1000000 in
theorem rcount_nil {w : World} {r n ob ocap fcap : Nat} {a : Option Addr} {o : Ord n} (hn8 : n ≤ 8) (hc : w.cell? ⟨r, 0, none⟩ = some (.int .i64 (n : Int))) (ho : ∀ k : Nat, k < n → w.cell? ⟨ob, 0 + k, none⟩ = some (.int .i64 (o.at_ (k : Int)))) :
    Calls Tryz.prog 97 #[.pointer (some ⟨r, 0, none⟩), .slice a 0 fcap, .slice (some ⟨ob, 0, none⟩) n ocap] w fun e w' => e = .returned (.int .i64 0) ∧ w = w' := by
  have HO : Hid (∀ k : Nat, k < n → w.cell? ⟨ob, 0 + k, none⟩ = some (.int .i64 (o.at_ (k : Int)))) := ho
  clear ho
  go_enter Tryz.func97, Tryz.ntmps97
  go_wp2_with fail
  go_loopw [8, 9] (fun v x wr => x = .int .i64 0 ∧ v = .slice none 0 0 ∧ w = wr) (fun _ _ _ => 0)
  case atStart => exact ⟨rfl, rfl, rfl⟩
  case round =>
    obtain ⟨rfl, rfl, rfl⟩ := hrel
    go_wp2_with fail
    go_loopw [7, 8, 11] (fun c v x wr => ∃ k : Nat, k ≤ n ∧ x = .int .i64 k ∧ c = .int .i64 0 ∧ v = .slice none 0 0 ∧ w = wr) (fun _ _ x _ => n - (intOf x).toNat)
    case atStart => exact ⟨0, by omega, rfl, rfl, rfl, rfl⟩
    case round =>
      obtain ⟨k, hk, rfl, rfl, rfl, rfl⟩ := hrel
      by_cases hlt : k < n
      · have hk0 : (0 : Int) ≤ (k : Int) := by omega
        have hk1 : (k : Int) < (n : Int) := by omega
        have h1 := HO.out k hlt
        rw [Nat.zero_add] at h1
        go_wp2_with fail
        go_loopw [7, 13, 14] (fun c v x wr => c = .int .i64 0 ∧ v = .slice none 0 0 ∧ x = .int .i64 0 ∧ w = wr) (fun _ _ _ _ => 0)
        case atStart => exact ⟨rfl, rfl, rfl, rfl⟩
        case round =>
          obtain ⟨rfl, rfl, rfl, rfl⟩ := hrel
          go_wp2_with fail
          go_roundw
          case rel => exact ⟨k + 1, by omega, by go_num, rfl, rfl, by first | rfl | trivial⟩
          case measure => simp [intOf]; omega
      · have e : k = n := by omega
        subst e
        go_wp2_with fail
        go_ret
        exact ⟨rfl, by first | rfl | trivial⟩

theorem total_nil (N : Tab) : ∀ (d : Nat) (k : Int), total N d k [] = 0
  | 0, k => by simp [total]
  | d + 1, k => by
    have h := total_nil N d (k + 1)
    simp [total, atLv, nextN, once, h]

section
variable {N : Tab} {last : Int} {n : Nat}

set_option maxRecDepth 100000 in
set_option maxHeartbeats 1000000 in
theorem rnodes_any {w : World} {r : Nat} {lim la : Int} {ov lv : Value} {o : Ord n} {ns : List (Int × Int)} (hw : Wf N (n : Int) last) (hn8 : n ≤ 8) (h : RSt w r n lim la ov lv o (hT N o ns)) (hok : ∀ p ∈ ns, Ok N 0 p.2) (hl : ns.length ≤ 60) :
    Calls Tryz.prog 58 #[.pointer (some ⟨r, 0, none⟩)] w fun e w' => e = .returned (.int .i64 ((total N n 0 (once [] (ns.map (·.2))) : Nat) : Int)) ∧ Keeps [] w w' := by
  have hlen := hT_length N o ns
  obtain ⟨ob, ocap, eov, hobr, hobl, hord⟩ := h.ord
  subst eov
  have c3 := h.c3
  have HALL : Hid (∀ w0 : World, Keeps [] w w0 → Calls Tryz.prog 98 #[.pointer (some ⟨r, 0, none⟩)] w0 fun e w' => ∃ v, e = .returned v ∧ w'.ownsRow w.heap.size 9 1 v ns.length (((ns.map (·.2)).map (T N o)).map Value.string) ∧ Keeps [] w w') := by
    intro w0 hk
    refine (rall_any (h.held.keeps hk (by simp) (by simp)) (by omega)).mono ?_
    rintro e w' ⟨v, rfl, ho, hk'⟩
    rw [hlen, hT_texts] at ho
    exact ⟨v, rfl, row_mono ho hk.size, hk.trans hk'⟩
  obtain ⟨C, hC⟩ : ∃ C : Nat, C = total N n 0 (once [] (ns.map (·.2))) := ⟨_, rfl⟩
  rw [← hC]
  have HCNT : Hid (∀ (w1 : World) (v : Value), Keeps [] w w1 → w1.ownsRow w.heap.size 9 1 v ns.length (((ns.map (·.2)).map (T N o)).map Value.string) → Calls Tryz.prog 97 #[.pointer (some ⟨r, 0, none⟩), v, .slice (some ⟨ob, 0, none⟩) n ocap] w1 fun e w' => e = .returned (.int .i64 (C : Int)) ∧ Keeps [] w1 w') := by
    intro w1 v hk hown
    have hown' := hown
    rcases Nat.eq_zero_or_pos ns.length with h0 | h0
    · have e : ns = [] := List.length_eq_zero_iff.1 h0
      obtain ⟨a, cap', rfl⟩ : ∃ a cap', v = .slice a 0 cap' := by
        rcases hown.2 with ⟨rfl, _⟩ | ⟨g, cap', cur, rfl, hb, hgg, rest⟩
        · exact ⟨none, 0, rfl⟩
        · exact ⟨_, cap', by rw [h0]⟩
      refine (rcount_nil (o := o) hn8 (hk.cell h.c0 (by simp)) (fun k hk' => hk.cell (hord k hk') (by simp))).mono ?_
      rintro e2 w2 ⟨rfl, rfl⟩
      refine ⟨?_, Keeps.refl _ _⟩
      rw [hC, e]
      simp [once, total_nil]
    · rcases hown.2 with ⟨_, h1⟩ | ⟨g, cap', cur, rfl, hb, hgg, rest⟩
      · omega
      · refine (rcount_any (n := n) (nm := ns.map (·.2)) hw hn8 o (hk.cell h.c0 (by simp)) (by simp) h0 (by omega) ?_ ?_ (fun k hk' => hk.cell (hord k hk') (by simp))).mono ?_
        · intro z hz
          simp only [List.mem_map] at hz
          obtain ⟨p, hp, rfl⟩ := hz
          exact hok p hp
        · intro j hj
          rw [World.ownsRow.cellAt hown' j (by simp at hj; omega)]
          simp only [List.getElem?_map, List.getElem?_eq_getElem (by simpa using hj : j < ns.length), Option.map_some, List.getElem_map]
        · rintro e w2 ⟨rfl, hk2⟩
          rw [hC]
          exact ⟨rfl, hk2⟩
  clear h hC hlen hord hok hw
  have k0 : Keeps [] w w.drew := (Keeps.refl _ _).drew
  go_enter Tryz.func58, Tryz.ntmps58
  go_wp2_with fail
  go_region_held3 (fun w' => w'.cell? ⟨r, 3, none⟩ = some (.slice (some ⟨ob, 0, none⟩) n ocap))
    (first | exact c3 | exact k0.cell c3 (by simp) | exact k1.cell c3 (by simp) | exact k4.cell c3 (by simp) | assumption)
    (first
      | (go_at_call 98; refine (HALL.out _ k0).mono ?_; rintro e w1 ⟨v, rfl, hown, k1⟩)
      | (go_at_call 97; refine (HCNT.out _ _ k1 hown).mono ?_; rintro e w3 ⟨rfl, hk4⟩; have k4 := k1.trans hk4))
  go_wp2_with fail
  go_ret
  exact ⟨rfl, k4⟩

end
end Go.Proofs.YtmgjegokkbghlaaGreat

namespace Go.Proofs.YtmgjegokkbghlaaGreat
open Go.RowKit Go.Maps Bdd
attribute [local go_sem ↓] Go.wp_at_zero Go.wp_at_succ

theorem infoIntR : (Tryz.prog.info? 3).map (fun i => (i.zero, i.size, i.bytes)) = some (some (.int .i64 0), 1, 8) := by kernel_rfl
/-- the first numbers -/
def numR (j : Nat) : List Value := (List.range j).map fun k : Nat => .int .i64 (k : Int)
theorem numR_succ (j : Nat) : numR (j + 1) = numR j ++ [.int .i64 (j : Int)] := by simp [numR, List.range_succ]
/-- a store that is being made -/
def NewR (w : World) (r n : Nat) (l : Int) (v : Value) : Prop := w.cell? ⟨r, 0, none⟩ = some (.int .i64 (n : Int)) ∧ w.cell? ⟨r, 1, none⟩ = some (.int .i64 l) ∧ w.cell? ⟨r, 2, none⟩ = some (.int .i64 0) ∧ w.cell? ⟨r, 3, none⟩ = some v ∧ w.cell? ⟨r, 4, none⟩ = some (.slice none 0 0) ∧ ∀ i, w.frozen? ⟨r, i, none⟩ = false
theorem NewR.set {w w' : World} {r n : Nat} {l : Int} {v : Value} {S : List Nat} (h : NewR w r n l v) (hk : Keeps S w w') (hS : r ∉ S) (v' : Value) : NewR (w'.setCell ⟨r, 3, none⟩ v') r n l v' := by
  obtain ⟨h0, h1, h2, h3, h4, hf⟩ := h
  refine ⟨?_, ?_, ?_, World.cell?_setCell_same _ _ _ (hk.cell h3 hS), ?_, fun i => ?_⟩
  · rw [World.cell?_setCell_other _ _ _ _ (by simp)]; exact hk.cell h0 hS
  · rw [World.cell?_setCell_other _ _ _ _ (by simp)]; exact hk.cell h1 hS
  · rw [World.cell?_setCell_other _ _ _ _ (by simp)]; exact hk.cell h2 hS
  · rw [World.cell?_setCell_other _ _ _ _ (by simp)]; exact hk.cell h4 hS
  · rw [World.frozen?_setCell]; exact (hk.frozen (p := ⟨r, i, none⟩) (cell_lt (p := ⟨r, 0, none⟩) h0) hS).trans (hf i)

set_option maxRecDepth 100000 in
set_option maxHeartbeats 400000 in
theorem rnew_bad {w : World} {v l : Int} (h : v < 1 ∨ 8 < v ∨ l < 0 ∨ 2000 < l) : Calls Tryz.prog 12 #[.int .i64 v, .int .i64 l] w fun e w' => e = .returned (.tuple #[.pointer none, .int .i64 1]) ∧ Keeps [] w w' := by
  by_cases h1 : v < 1
  · go_enter Tryz.func12, Tryz.ntmps12
    go_wp2_with fail
    go_ret2
    exact ⟨rfl, Keeps.refl _ _⟩
  · by_cases h2 : 8 < v
    · go_enter Tryz.func12, Tryz.ntmps12
      go_wp2_with fail
      go_ret2
      exact ⟨rfl, Keeps.refl _ _⟩
    · by_cases h3 : l < 0
      · go_enter Tryz.func12, Tryz.ntmps12
        go_wp2_with fail
        go_ret2
        exact ⟨rfl, Keeps.refl _ _⟩
      · have h4 : 2000 < l := by omega
        go_enter Tryz.func12, Tryz.ntmps12
        go_wp2_with fail
        go_ret2
        exact ⟨rfl, Keeps.refl _ _⟩

set_option maxRecDepth 100000 in
set_option maxHeartbeats 1000000 in
theorem rnew_good {w : World} {n : Nat} {l : Int} (h1 : 1 ≤ n) (h2 : n ≤ 8) (h3 : 0 ≤ l) (h4 : l ≤ 2000) :
    Calls Tryz.prog 12 #[.int .i64 n, .int .i64 l] w fun e w' => e = .returned (.tuple #[.pointer (some ⟨w.heap.size, 0, none⟩), .int .i64 0]) ∧ ∃ ov, RSt w' w.heap.size n l 0 ov (.slice none 0 0) (Ord.first n) [] ∧ (∀ g, ov.ownBlock = some g → w.heap.size ≤ g) ∧ Keeps [] w w' := by
  have q1 : (1 : Int) ≤ (n : Int) := by omega
  have q2 : (n : Int) ≤ 8 := by omega
  obtain ⟨i0, hi, hz0, hz1, hz2⟩ := info_parts infoIntR
  have hml : 100 < maxLen := by decide
  obtain ⟨Y, hY⟩ : ∃ Y, Y = w.alloc (Obj.cells #[Value.int IntKind.i64 n, Value.int IntKind.i64 l, Value.int IntKind.i64 0, Value.slice none 0 0, Value.slice none 0 0] 59) := ⟨_, rfl⟩
  have hkY : Keeps [] w Y := by rw [hY]; exact (Keeps.refl _ _).alloc _
  have hlY : w.heap.size + 1 = Y.heap.size := by rw [hY]; simp
  have hN : NewR Y w.heap.size n l (.slice none 0 0) := by
    rw [hY]
    exact ⟨by simp, by simp, by simp, by simp, by simp, fun i => World.frozen?_alloc_at _ _ _ _ rfl⟩
  have HN : Hid (NewR Y w.heap.size n l (.slice none 0 0)) := hN
  have HY : Hid (Y = w.alloc (Obj.cells #[Value.int IntKind.i64 n, Value.int IntKind.i64 l, Value.int IntKind.i64 0, Value.slice none 0 0, Value.slice none 0 0] 59)) := hY
  clear hY hN
  go_enter Tryz.func12, Tryz.ntmps12
  go_wp2_with fail
  rw [← HY.out]
  go_loopw [7] (fun i wr => ∃ (j : Nat) (v : Value), j ≤ n ∧ i = .int .i64 j ∧ wr.ownsRow (w.heap.size + 1) 3 1 v j (numR j) ∧ NewR wr w.heap.size n l v ∧ Keeps [w.heap.size] Y wr) (fun i _ => n - (intOf i).toNat)
  case atStart => exact ⟨0, _, by omega, rfl, World.ownsRow_nil _ _ _ _, HN.out, Keeps.refl _ _⟩
  case round =>
    clear HN
    obtain ⟨j, v, hj, rfl, hown, hS, hkr⟩ := hrel
    by_cases hlt : j < n
    · have x2 := hS.2.2.2.1
      have xf := hS.2.2.2.2.2 3
      have hj0 : (0 : Int) ≤ (j : Int) := by omega
      have hj1 : (j : Int) < (n : Int) := by omega
      have hlr := hkr.size
      have hsl : w.heap.size < wr.heap.size := by omega
      have HS : Hid (NewR wr w.heap.size n l v) := hS
      clear hS
      go_wp2_with (first
        | (at_builtin; refine wpList_append_own_at _ rfl _ _ 31 rfl (w.heap.size + 1) 3 i0 (.int .i64 0) 1 8 Tryz.underlying31 hi hz0 hz1 hz2 rfl (by decide) _ j (numR j) rfl (hown.alloc _) ⟨wr.heap.size, 0, none⟩ 1 1 [.int .i64 j] rfl rfl (cell_one_new _ _ _) (ints_oneCell .i64 [(j : Int)]) (by omega) (by omega) (by simp; omega) ?_; intro v' w2 hown' hgrow hnil hloc; have kk : Keeps v.ownBlock.toList wr w2 := ((Keeps.refl _ _).alloc _).grown hgrow (fun k hk' => Or.inl (Option.mem_toList.2 hk')); have nin : w.heap.size ∉ v.ownBlock.toList := (fun hin => by have := (hown.lt w.heap.size (by simpa using hin)).1; omega); have x2' := kk.cell x2 nin; have xf' : w2.frozen? ⟨w.heap.size, 3, none⟩ = false := (kk.frozen (p := ⟨w.heap.size, 3, none⟩) hsl nin).trans xf; obtain ⟨g2, cap2, hv2⟩ : ∃ g2 cap2, v' = .slice (some ⟨g2, 0, none⟩) (j + 1) cap2 := (by rcases hown'.2 with ⟨_, h0⟩ | ⟨g2, cap2, cur, hv, _⟩ <;> first | omega | exact ⟨g2, cap2, hv⟩); subst hv2)
        | fail)
      go_roundw
      case rel =>
        refine ⟨j + 1, _, by omega, by go_num, ?_, HS.out.set kk nin _, ?_⟩
        · rw [numR_succ]
          exact ownsRow_setCell_other hown' (fun hin => by have := (hown'.lt w.heap.size hin).1; omega) _
        · exact ((hkr.alloc _).grown hgrow (fun k hk' => Or.inr (by have := (hown.lt k hk').1; omega))).setCell _ (Or.inl (by simp)) _
      case measure => simp [intOf]; omega
    · have e : j = n := by omega
      subst e
      have hjj : ¬ (j : Int) < (j : Int) := by omega
      go_wp2_with fail
      go_ret2
      obtain ⟨g, cap, hv⟩ : ∃ g cap, v = .slice (some ⟨g, 0, none⟩) j cap := by
        rcases hown.2 with ⟨_, h0⟩ | ⟨g, cap, cur, hv, _⟩
        · omega
        · exact ⟨g, cap, hv⟩
      subst hv
      have hg := hown.lt g rfl
      obtain ⟨z0, z1, z2, z3, z4, zf⟩ := hS
      refine ⟨rfl, _, ⟨z0, z1, z2, z3, zf, ⟨z4, World.ownsRow_nil _ _ _ _⟩, ⟨g, cap, rfl, by omega, by simp [Value.ownBlock], fun k hk => ?_⟩, by simp [Value.ownBlock]⟩, fun g' hg' => ?_, ((hkY.mono (by simp)).trans hkr).strike (by simp)⟩
      · rw [Nat.zero_add, hown.cellAt k (by omega)]
        simp [numR, hk, Ord.first]
      · have := (hown.lt g' hg').1; omega

end Go.Proofs.YtmgjegokkbghlaaGreat
