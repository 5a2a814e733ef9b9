/- The document's store in memory: hold, Nodes. -/
import Derived.Test.YtmgjegokkbghlaaGreatRefAll
import Derived.Deep.AppendLies
import Derived.Deep.RegionHeld3
import Derived.Deep.RegionLaw
namespace Go.Proofs.YtmgjegokkbghlaaGreat
open Go.RowKit Go.Maps Bdd
attribute [local go_sem ↓] Go.wp_at_zero Go.wp_at_succ

theorem infoHeld : (Tryz.prog.info? 73).map (fun i => (i.zero, i.size, i.bytes)) = some (some (.agg #[.int .i64 0, .string ByteArray.empty]), 2, 24) := by kernel_rfl

/-- A STORE OF THE DOCUMENT'S: its five fields, the order as a list, what is held. -/
structure RSt (w : World) (r n : Nat) (lim la : Int) (ov lv : Value) (o : Ord n) (hs : List (Int × ByteArray)) : Prop where
  c0 : w.cell? ⟨r, 0, none⟩ = some (.int .i64 (n : Int))
  c1 : w.cell? ⟨r, 1, none⟩ = some (.int .i64 lim)
  c2 : w.cell? ⟨r, 2, none⟩ = some (.int .i64 la)
  c3 : w.cell? ⟨r, 3, none⟩ = some ov
  fr : ∀ j, w.frozen? ⟨r, j, none⟩ = false
  held : Held w r lv hs
  ord : ∃ ob cap, ov = .slice (some ⟨ob, 0, none⟩) n cap ∧ ob ≠ r ∧ lv.ownBlock ≠ some ob ∧ ∀ k : Nat, k < n → w.cell? ⟨ob, 0 + k, none⟩ = some (.int .i64 (o.at_ (k : Int)))
  lr : lv.ownBlock ≠ some r

/-- handles and names as handles and texts -/
def hT {n : Nat} (N : Tab) (o : Ord n) (ns : List (Int × Int)) : List (Int × ByteArray) := ns.map fun p => (p.1, T N o p.2)
theorem hT_texts {n : Nat} (N : Tab) (o : Ord n) (ns : List (Int × Int)) : texts (hT N o ns) = ((ns.map (·.2)).map (T N o)).map Value.string := by simp [texts, hT]
theorem hT_length {n : Nat} (N : Tab) (o : Ord n) (ns : List (Int × Int)) : (hT N o ns).length = ns.length := by simp [hT]

theorem row_mono {w : World} {base base' : Nat} {e : TypeId} {size : Nat} {v : Value} {n : Nat} {xs : List Value} (h : w.ownsRow base e size v n xs) (hb : base' ≤ base) : w.ownsRow base' e size v n xs := by
  refine ⟨h.1, ?_⟩
  rcases h.2 with h' | ⟨g, cap, cur, rfl, hbg, rest⟩
  · exact .inl h'
  · exact .inr ⟨g, cap, cur, rfl, by omega, rest⟩

theorem cells_laid (w : World) (C : List Value) (t : TypeId) : ∀ j u, C[j]? = some u → (w.alloc (.cells C.toArray t)).cell? ((⟨w.heap.size, 0, none⟩ : Addr).add j) = some u := by
  intro j u hj
  rw [Addr.add_mid, World.cell?_alloc_at _ _ _ _ rfl]
  simpa using hj

/-- one function more is held: behind the two stores -/
theorem RSt.added {w w3 W w5 : World} {r n : Nat} {lim la : Int} {ov : Value} {a : Option Addr} {m cap : Nat} {o : Ord n} {hs : List (Int × ByteArray)} {S : ByteArray} {g5 cap5 : Nat} (h : RSt w r n lim la ov (.slice a m cap) o hs) (hn0 : 0 < n) (hm : m = hs.length) (k4 : Keeps [] w w3) (hW : W = w3.setCell ⟨r, 2, none⟩ (.int .i64 (la + 1))) (kk : Keeps (Value.slice a m cap).ownBlock.toList W w5) (hown5 : w5.ownsRow 0 73 2 (.slice (some ⟨g5, 0, none⟩) (m + 1) cap5) (m + 1) (flatH hs ++ [.int .i64 (la + 1), .string S])) (hat : (Value.slice a m cap).ownBlock = some g5 ∨ g5 = W.heap.size + 1) :
    RSt (w5.setCell ⟨r, 4, none⟩ (.slice (some ⟨g5, 0, none⟩) (m + 1) cap5)) r n lim (la + 1) ov (.slice (some ⟨g5, 0, none⟩) (m + 1) cap5) o (hs ++ [(la + 1, S)]) ∧ Keeps (r :: (Value.slice a m cap).ownBlock.toList) w (w5.setCell ⟨r, 4, none⟩ (.slice (some ⟨g5, 0, none⟩) (m + 1) cap5)) ∧ ((Value.slice (some ⟨g5, 0, none⟩) (m + 1) cap5).ownBlock = (Value.slice a m cap).ownBlock ∨ ∃ g, (Value.slice (some ⟨g5, 0, none⟩) (m + 1) cap5).ownBlock = some g ∧ w.heap.size ≤ g) := by
  have hr : r ∉ (Value.slice a m cap).ownBlock.toList := by have := h.lr; simpa using this
  have hlr : r < w.heap.size := cell_lt (p := ⟨r, 0, none⟩) h.c0
  have hsW : W.heap.size = w3.heap.size := by rw [hW]; simp [World.setCell]
  have hs3 := k4.size
  have g5r : g5 ≠ r := by
    rcases hat with e | e
    · intro e'; subst e'; exact h.lr e
    · omega
  have hoth : ∀ j v, j ≠ 2 → j ≠ 4 → w.cell? ⟨r, j, none⟩ = some v → (w5.setCell ⟨r, 4, none⟩ (.slice (some ⟨g5, 0, none⟩) (m + 1) cap5)).cell? ⟨r, j, none⟩ = some v := by
    intro j v h2 h4 hc
    rw [World.cell?_setCell_other _ _ _ _ (by intro e; injection e; omega)]
    refine kk.cell ?_ hr
    rw [hW, World.cell?_setCell_other _ _ _ _ (by intro e; injection e; omega)]
    exact k4.cell hc (by simp)
  have x2 : W.cell? ⟨r, 2, none⟩ = some (.int .i64 (la + 1)) := by rw [hW]; exact World.cell?_setCell_same _ _ _ (k4.cell h.c2 (by simp))
  have x4 : W.cell? ⟨r, 4, none⟩ = some (.slice a m cap) := by rw [hW, World.cell?_setCell_other _ _ _ _ (by simp)]; exact k4.cell h.held.c4 (by simp)
  refine ⟨⟨hoth 0 _ (by omega) (by omega) h.c0, hoth 1 _ (by omega) (by omega) h.c1, ?_, hoth 3 _ (by omega) (by omega) h.c3, fun j => ?_, ⟨World.cell?_setCell_same _ _ _ (kk.cell x4 hr), ?_⟩, ?_, ?_⟩, ?_, ?_⟩
  · rw [World.cell?_setCell_other _ _ _ _ (by simp)]
    exact kk.cell x2 hr
  · rw [World.frozen?_setCell, kk.frozen (p := ⟨r, j, none⟩) (by show r < _; omega) hr, hW, World.frozen?_setCell, k4.frozen (p := ⟨r, j, none⟩) hlr (by simp)]
    exact h.fr j
  · rw [flatH_snoc, List.length_append, ← hm]
    refine ownsRow_setCell_other hown5 ?_ _
    show some g5 ≠ some r
    simpa using g5r
  · obtain ⟨ob, ocap, e, h1, h2, h3⟩ := h.ord
    have hlo : ob < w.heap.size := cell_lt (p := ⟨ob, 0 + 0, none⟩) (h3 0 hn0)
    have hob : ob ∉ (Value.slice a m cap).ownBlock.toList := by simpa using h2
    refine ⟨ob, ocap, e, h1, ?_, fun k hk => ?_⟩
    · show some g5 ≠ some ob
      intro e'
      have e' : g5 = ob := by simpa using e'
      rcases hat with e2 | e2
      · exact h2 (by rw [e2, e'])
      · omega
    · rw [World.cell?_setCell_far _ _ _ _ (by simpa using Ne.symm h1)]
      refine kk.cell ?_ hob
      rw [hW, World.cell?_setCell_far _ _ _ _ (by simpa using Ne.symm h1)]
      exact k4.cell (h3 k hk) (by simp)
  · show some g5 ≠ some r
    simpa using g5r
  · refine Keeps.setCell ?_ _ (Or.inl (by simp)) _
    have e1 : Keeps (r :: (Value.slice a m cap).ownBlock.toList) w W := by
      rw [hW]
      exact (k4.mono (by simp)).setCell _ (Or.inl (by simp)) _
    exact e1.trans (kk.mono (fun i hi => by simp only [List.mem_cons]; exact Or.inr hi))
  · rcases hat with e | e
    · exact Or.inl e.symm
    · exact Or.inr ⟨g5, rfl, by omega⟩

section
variable {N : Tab} {last : Int} {n : Nat}

set_option maxRecDepth 100000 in
set_option maxHeartbeats 1000000 in
theorem rhold_many {w : World} {r : Nat} {lim la : Int} {ov lv : Value} {o : Ord n} {hs : List (Int × ByteArray)} (h : RSt w r n lim la ov lv o hs) (hl : 60 ≤ hs.length) (hl' : hs.length ≤ 1000) (S : ByteArray) :
    Calls Tryz.prog 86 #[.pointer (some ⟨r, 0, none⟩), .string S] w fun e w' => e = .returned (.tuple #[.int .i64 0, .int .i64 4]) ∧ w = w' := by
  obtain ⟨a, cap, rfl⟩ := h.held.form
  have c4 := h.held.c4
  obtain ⟨m, hm⟩ : ∃ m, m = hs.length := ⟨_, rfl⟩
  rw [← hm] at c4 hl hl'
  clear hm h
  have hm' : (60 : Int) ≤ (m : Int) := by omega
  go_enter Tryz.func86, Tryz.ntmps86
  go_wp2_with fail
  go_ret2
  exact ⟨rfl, by first | rfl | trivial⟩

/-- the count ahead of a 'hold' -/
def heldCount (N : Tab) (n : Nat) (ns : List (Int × Int)) (y : Int) : Nat := total N n 0 (once [] (ns.map (·.2) ++ [y]))

set_option maxRecDepth 100000 in
set_option maxHeartbeats 1000000 in
theorem rhold_few {w : World} {r : Nat} {lim la : Int} {ov lv : Value} {o : Ord n} {ns : List (Int × Int)} {y : Int} (hw : Wf N (n : Int) last) (hn0 : 0 < n) (hn8 : n ≤ 8) (h : RSt w r n lim la ov lv o (hT N o ns)) (hok : ∀ p ∈ ns, Ok N 0 p.2) (hy : Ok N 0 y) (hl : ns.length < 60) (hla0 : 0 ≤ la) (hla1 : la < 4611686018427387904) :
    Calls Tryz.prog 86 #[.pointer (some ⟨r, 0, none⟩), .string (T N o y)] w fun e w' =>
      if lim < (heldCount N n ns y : Int) then e = .returned (.tuple #[.int .i64 0, .int .i64 5]) ∧ Keeps [] w w'
      else e = .returned (.tuple #[.int .i64 (la + 1), .int .i64 0]) ∧ ∃ lv', RSt w' r n lim (la + 1) ov lv' o (hT N o (ns ++ [(la + 1, y)])) ∧ Keeps (r :: lv.ownBlock.toList) w w' ∧ (lv'.ownBlock = lv.ownBlock ∨ ∃ g, lv'.ownBlock = some g ∧ w.heap.size ≤ g) := by
  obtain ⟨i0, hI0, hz0, hz1, hz2⟩ := info_parts info9
  obtain ⟨j0, hJ0, hy0, hy1, hy2⟩ := info_parts infoHeld
  have hml : 1000000 < maxLen := by decide
  have hlen := hT_length N o ns
  obtain ⟨ob, ocap, eov, hobr, hobl, hord⟩ := h.ord
  subst eov
  obtain ⟨a, cap, elv⟩ := h.held.form
  have c0 := h.c0
  have c1 := h.c1
  have c2 := h.c2
  have c3 := h.c3
  have c4 := h.held.c4
  rw [elv] at c4
  rw [hlen] at c4
  obtain ⟨m, hm⟩ : ∃ m, m = ns.length := ⟨_, rfl⟩
  rw [← hm] at c4 hl
  have hm60 : (m : Int) < 60 := by omega
  have HALL : Hid (∀ w0 : World, Keeps [] w w0 → Calls Tryz.prog 98 #[.pointer (some ⟨r, 0, none⟩)] w0 fun e w' => ∃ v, e = .returned v ∧ w'.ownsRow w.heap.size 9 1 v m (((ns.map (·.2)).map (T N o)).map Value.string) ∧ Keeps [] w0 w' ∧ Keeps [] w w') := by
    intro w0 hk
    refine (rall_any (h.held.keeps hk (by simp) (by simp)) (by omega)).mono ?_
    rintro e w' ⟨v, rfl, ho, hk'⟩
    rw [hlen, ← hm, hT_texts] at ho
    exact ⟨v, rfl, row_mono ho hk.size, hk', hk.trans hk'⟩
  have HST : Hid (RSt w r n lim la (.slice (some ⟨ob, 0, none⟩) n ocap) lv o (hT N o ns)) := h
  have HM : Hid (m = ns.length) := hm
  obtain ⟨S, hS⟩ : ∃ S, S = T N o y := ⟨_, rfl⟩
  rw [← hS]
  have HS : Hid (S = T N o y) := hS
  obtain ⟨C, hC⟩ : ∃ C : Nat, C = heldCount N n ns y := ⟨_, rfl⟩
  rw [← hC]
  have HC : Hid (C = heldCount N n ns y) := hC
  have HCNT : Hid (∀ (w1 : World) (v : Value), Keeps [] w w1 → w1.ownsRow w.heap.size 9 1 v (m + 1) ((((ns.map (·.2)).map (T N o)).map Value.string) ++ [.string S]) → Calls Tryz.prog 97 #[.pointer (some ⟨r, 0, none⟩), v, .slice (some ⟨ob, 0, none⟩) n ocap] w1 fun e w' => e = .returned (.int .i64 (C : Int)) ∧ Keeps [] w1 w') := by
    intro w1 v hk hown
    have hnl : m + 1 = (ns.map (·.2) ++ [y]).length := by simp [hm]
    rcases hown.2 with ⟨_, h0⟩ | ⟨g, cap', cur, rfl, hb, hgg, rest⟩
    · omega
    · refine (rcount_any (n := n) (nm := ns.map (·.2) ++ [y]) hw hn8 o (hk.cell c0 (by simp)) hnl (by omega) (by omega) ?_ ?_ (fun k hk' => hk.cell (hord k hk') (by simp))).mono ?_
      · intro z hz
        simp only [List.mem_append, List.mem_map, List.mem_singleton] at hz
        rcases hz with ⟨p, hp, rfl⟩ | rfl
        · exact hok p hp
        · exact hy
      · intro j hj
        rw [World.ownsRow.cellAt hown j (by omega)]
        have e : ((((ns.map (·.2)).map (T N o)).map Value.string) ++ [.string S]) = ((ns.map (·.2) ++ [y]).map (T N o)).map Value.string := by simp [hS]
        rw [e]
        simp only [List.getElem?_map, List.getElem?_eq_getElem hj, Option.map_some]
      · rintro e w2 ⟨rfl, hk2⟩
        rw [hC]
        exact ⟨rfl, hk2⟩
  clear h hm hS hC hlen hord hok hy hw
  have k0 : Keeps [] w w.drew := (Keeps.refl _ _).drew
  go_enter Tryz.func86, Tryz.ntmps86
  go_wp2_with fail
  go_region_held3 (fun w' => w'.cell? ⟨r, 3, none⟩ = some (.slice (some ⟨ob, 0, none⟩) n ocap) ∧ Keeps [] w w')
    (first | exact ⟨c3, k0⟩ | exact ⟨(k0.alloc _).cell c3 (by simp), k0.alloc _⟩ | exact ⟨k1.cell c3 (by simp), k1⟩ | exact ⟨(k1.alloc _).cell c3 (by simp), k1.alloc _⟩ | exact ⟨k3.cell c3 (by simp), k3⟩ | exact ⟨k4.cell c3 (by simp), k4⟩ | assumption)
    (first
      | (go_at_call 98; refine (HALL.out _ (by first | exact k0 | exact k0.alloc _)).mono ?_; rintro e w1 ⟨v, rfl, hown, hka, k1⟩)
      | (refine step_append_lies _ (by rfl) _ _ _ (by rfl) w.heap.size 9 i0 (.string ByteArray.empty) 1 16 Tryz.underlying123 hI0 hz0 hz1 hz2 (by rfl) (by decide) _ m _ (by rfl) (hown.alloc _) ⟨w1.heap.size, 0, none⟩ 1 1 [.string S] (by rfl) (by rfl) (cell_one_new _ _ _) (by simp [Value.oneCell']) (by omega) (by omega) (by omega) (by have := k1.size; simp; omega) (w1.heap.size + 1) (by simp) ?_; intro g cap2 w2 hown2 hgrow hat hlt; have k3 : Keeps [] w w2 := (k1.alloc _).grown hgrow (fun k hk' => Or.inr (hown.lt k hk').1))
      | (refine step_append_lies _ (by rfl) _ _ _ (by rfl) w.heap.size 9 i0 (.string ByteArray.empty) 1 16 Tryz.underlying123 hI0 hz0 hz1 hz2 (by rfl) (by decide) _ m _ (by rfl) hown ⟨w.heap.size, 0, none⟩ 1 1 [.string S] (by rfl) (by rfl) (fun j u hj => hka.cell (cell_one_new _ _ _ j u hj) (by simp)) (by simp [Value.oneCell']) (by omega) (by omega) (by omega) k1.size _ rfl ?_; intro g cap2 w2 hown2 hgrow hat hlt; have k3 : Keeps [] w w2 := k1.grown hgrow (fun k hk' => Or.inr (hown.lt k hk').1))
      | (go_at_call 97; refine (HCNT.out _ _ k3 hown2).mono ?_; rintro e w3 ⟨rfl, hk4⟩; have k4 := k3.trans hk4))
  all_goals
    have d1 := k4.cell c1 (by simp)
    have d2 := k4.cell c2 (by simp)
    have d4 := k4.cell c4 (by simp)
    have hlr : r < w.heap.size := cell_lt (p := ⟨r, 0, none⟩) c0
    have f2 : w3.frozen? ⟨r, 2, none⟩ = false := by rw [k4.frozen (p := ⟨r, 2, none⟩) hlr (by simp)]; exact HST.out.fr 2
    have f4 : w3.frozen? ⟨r, 4, none⟩ = false := by rw [k4.frozen (p := ⟨r, 4, none⟩) hlr (by simp)]; exact HST.out.fr 4
    clear hown hgrow hat hlt hown2 hka
    by_cases hlim : lim < (C : Int)
    · go_wp2_with fail
      go_ret2
      exact ⟨rfl, k4⟩
    · have hlim' : (C : Int) ≤ lim := by omega
      clear hlim
      go_wp2_with fail
      obtain ⟨W, hW⟩ : ∃ W, W = w3.setCell ⟨r, 2, none⟩ (.int .i64 (la + 1)) := ⟨_, rfl⟩
      have x2 : W.cell? ⟨r, 2, none⟩ = some (.int .i64 (la + 1)) := by rw [hW]; exact World.cell?_setCell_same _ _ _ d2
      have x4 : W.cell? ⟨r, 4, none⟩ = some (.slice a m cap) := by rw [hW, World.cell?_setCell_other _ _ _ _ (by simp)]; exact d4
      have g4 : W.frozen? ⟨r, 4, none⟩ = false := by rw [hW, World.frozen?_setCell]; exact f4
      have hrow : W.ownsRow 0 73 2 (.slice a m cap) m (flatH (hT N o ns)) := by
        have h1 := (HST.out.held.keeps k4 (by simp) (by simp)).own
        rw [elv] at h1
        rw [hT_length, ← HM.out] at h1
        rw [hW]
        refine ownsRow_setCell_other h1 ?_ _
        have h2 := HST.out.lr
        rw [elv, hT_length, ← HM.out] at h2
        exact h2
      have hlW : r < W.heap.size := cell_lt (p := ⟨r, 2, none⟩) x2
      have hrl : r ∉ (Value.slice a m cap).ownBlock.toList := by
        have h2 := HST.out.lr
        rw [elv, hT_length, ← HM.out] at h2
        simpa using h2
      have y2 : W.drew.cell? ⟨r, 2, none⟩ = some (.int .i64 (la + 1)) := x2
      have y4 : W.drew.cell? ⟨r, 4, none⟩ = some (.slice a m cap) := x4
      rw [← hW]
      have HW : Hid (W = w3.setCell ⟨r, 2, none⟩ (.int .i64 (la + 1))) := hW
      clear hW d2 d4 f2 f4
      go_region_law (first
          | (refine step_append_lies _ (by rfl) _ _ _ (by rfl) 0 73 j0 _ 2 24 Tryz.underlying57 hJ0 hy0 hy1 hy2 (by rfl) (by decide) _ m _ (by rfl) (World.ownsRow.alloc (w := W.drew) hrow _) ⟨W.heap.size, 0, none⟩ 1 1 [.int .i64 (la + 1), .string S] (by rfl) (by rfl) (cells_laid _ _ _) (by simp [Value.oneCell']) (by omega) (by omega) (by omega) (by omega) (W.heap.size + 1) (by simp) ?_; intro g5 cap5 w5 hown5 hgrow5 hat5 hlt5; have kk : Keeps (Value.slice a m cap).ownBlock.toList W w5 := (((Keeps.refl _ W).drew).alloc _).grown hgrow5 (fun j hj => Or.inl (by simp [hj])); have e5 : w5.cell? ⟨r, 4, none⟩ = some (.slice a m cap) := kk.cell x4 hrl; have f5 : w5.frozen? ⟨r, 4, none⟩ = false := (by rw [kk.frozen (p := ⟨r, 4, none⟩) hlW hrl]; exact g4)))
      all_goals
        have z2 : (w5.setCell ⟨r, 4, none⟩ (.slice (some ⟨g5, 0, none⟩) (m + 1) cap5)).cell? ⟨r, 2, none⟩ = some (.int .i64 (la + 1)) := by rw [World.cell?_setCell_other _ _ _ _ (by simp)]; exact kk.cell x2 hrl
        have HG : Hid (RSt (w5.setCell ⟨r, 4, none⟩ (.slice (some ⟨g5, 0, none⟩) (m + 1) cap5)) r n lim (la + 1) (.slice (some ⟨ob, 0, none⟩) n ocap) (.slice (some ⟨g5, 0, none⟩) (m + 1) cap5) o (hT N o (ns ++ [(la + 1, y)])) ∧ Keeps (r :: lv.ownBlock.toList) w (w5.setCell ⟨r, 4, none⟩ (.slice (some ⟨g5, 0, none⟩) (m + 1) cap5)) ∧ ((Value.slice (some ⟨g5, 0, none⟩) (m + 1) cap5).ownBlock = lv.ownBlock ∨ ∃ g, (Value.slice (some ⟨g5, 0, none⟩) (m + 1) cap5).ownBlock = some g ∧ w.heap.size ≤ g)) := by
          have h0 := HST.out
          have elv' : lv = .slice a m cap := by rw [elv, hT_length, ← HM.out]
          rw [elv'] at h0 ⊢
          have hd := h0.added hn0 (by rw [hT_length]; exact HM.out) k4 HW.out kk hown5 hat5
          have e : hT N o (ns ++ [(la + 1, y)]) = hT N o ns ++ [(la + 1, S)] := by rw [HS.out]; simp [hT]
          rw [e]
          exact hd
        clear hgrow5 hown5 hat5 kk e5 f5 x2 x4 y2 y4 g4 hrow
        go_wp2_with fail
        go_ret2
        have hg := HG.out
        rw [elv] at hg
        exact ⟨rfl, _, hg⟩

end
end Go.Proofs.YtmgjegokkbghlaaGreat
