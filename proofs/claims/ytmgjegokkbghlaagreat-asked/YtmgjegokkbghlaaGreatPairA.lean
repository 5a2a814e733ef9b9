/- What a store holds, told plainly; what comes of one function more; the document's store by it. -/
import Derived.Test.YtmgjegokkbghlaaGreatSizeOne
import Derived.Test.YtmgjegokkbghlaaGreatRefNodes
import Derived.Test.YtmgjegokkbghlaaGreatRefRel
namespace Go.Proofs.YtmgjegokkbghlaaGreat
open Go.RowKit Go.Maps Bdd
set_option linter.unusedVariables false

/-- WHAT A STORE HOLDS: how many variables, the limit, the last handle, the order, the functions in the order in which they came. -/
structure Abs where
  n : Nat
  lim : Int
  la : Int
  o : Int → Int
  fs : List (Int × Fun)
/-- the function of a handle -/
def Vof (fs : List (Int × Fun)) (h : Int) : Option Fun := (fs.find? (fun p => p.1 == h)).map (·.2)
structure AbsOk (A : Abs) : Prop where
  n1 : 1 ≤ A.n
  n8 : A.n ≤ 8
  la0 : 0 ≤ A.la
  hs : ∀ p ∈ A.fs, 1 ≤ p.1 ∧ p.1 ≤ A.la
  nd : (A.fs.map (·.1)).Nodup
  len : A.fs.length ≤ 60

theorem find_none {fs : List (Int × Fun)} {h : Int} (hn : ∀ p ∈ fs, p.1 ≠ h) : fs.find? (fun p => p.1 == h) = none := by
  rw [List.find?_eq_none]
  intro p hp
  simpa using hn p hp
theorem Vof_none {fs : List (Int × Fun)} {h : Int} (hn : ∀ p ∈ fs, p.1 ≠ h) : Vof fs h = none := by rw [Vof, find_none hn]; rfl
theorem Vof_add {fs : List (Int × Fun)} {h : Int} (hn : ∀ p ∈ fs, p.1 ≠ h) (F : Fun) : Vof (fs ++ [(h, F)]) = addV (Vof fs) h F := by
  funext x
  unfold addV
  by_cases e : x = h
  · subst e
    rw [if_pos rfl, Vof, List.find?_append, find_none hn]
    simp
  · rw [if_neg e, Vof, Vof, List.find?_append]
    cases hx : fs.find? (fun p => p.1 == x) with
    | some p => rfl
    | none =>
      have : (h == x) = false := by simp; exact fun e' => e e'.symm
      simp [this]
theorem Vof_mem {fs : List (Int × Fun)} (hn : (fs.map (·.1)).Nodup) : ∀ p ∈ fs, Vof fs p.1 = some p.2 := by
  induction fs with
  | nil => intro p hp; cases hp
  | cons q r ih =>
    intro p hp
    simp only [List.map_cons, List.nodup_cons] at hn
    rcases List.mem_cons.1 hp with rfl | hp
    · simp [Vof]
    · have hne : q.1 ≠ p.1 := fun e => hn.1 (by rw [e]; exact List.mem_map.2 ⟨p, hp, rfl⟩)
      have := ih hn.2 p hp
      unfold Vof at this ⊢
      rw [List.find?_cons_of_neg (by simpa using hne)]
      exact this
theorem Vof_some {fs : List (Int × Fun)} {h : Int} {F : Fun} (hv : Vof fs h = some F) : (h, F) ∈ fs := by
  unfold Vof at hv
  obtain ⟨p, hp, rfl⟩ := Option.map_eq_some_iff.1 hv
  have h1 := List.mem_of_find?_eq_some hp
  have h2 := List.find?_some hp
  simp at h2
  rw [← h2]
  exact h1
theorem Vof_del (fs : List (Int × Fun)) (h : Int) : Vof (fs.filter fun p => p.1 != h) = delV (Vof fs) h := by
  funext x
  unfold delV
  by_cases e : x = h
  · subst e
    rw [if_pos rfl]
    exact Vof_none (fun p hp => by have := (List.mem_filter.1 hp).2; simpa using this)
  · rw [if_neg e]
    induction fs with
    | nil => rfl
    | cons q r ih =>
      by_cases eq : q.1 = h
      · rw [List.filter_cons_of_neg (by simp [eq]), ih]
        have : (q.1 == x) = false := by simp; exact fun e' => e (by rw [← e', eq])
        simp [Vof, this]
      · rw [List.filter_cons_of_pos (by simp [eq])]
        unfold Vof at ih ⊢
        simp only [List.find?_cons]
        cases (q.1 == x) with
        | true => rfl
        | false => exact ih
theorem filter_len {fs : List (Int × Fun)} {h : Int} (hn : (fs.map (·.1)).Nodup) {F : Fun} (hm : (h, F) ∈ fs) : (fs.filter fun p => p.1 != h).length = fs.length - 1 := by
  induction fs with
  | nil => cases hm
  | cons q r ih =>
    simp only [List.map_cons, List.nodup_cons] at hn
    rcases List.mem_cons.1 hm with e | hm
    · subst e
      rw [List.filter_cons_of_neg (by simp)]
      have : r.filter (fun p => p.1 != h) = r := List.filter_eq_self.2 (fun p hp => by
        simp only [bne_iff_ne, ne_eq]
        exact fun e => hn.1 (List.mem_map.2 ⟨p, hp, e⟩))
      rw [this]; simp
    · have hne : q.1 ≠ h := fun e => hn.1 (by rw [e]; exact List.mem_map.2 ⟨_, hm, rfl⟩)
      rw [List.filter_cons_of_pos (by simp [hne]), List.length_cons, ih hn.2 hm, List.length_cons]
      have : 0 < r.length := List.length_pos_of_mem hm
      omega

noncomputable def cntOf (L : Nat) (o : Int → Int) (V : Int → Option Fun) : Nat := by
  classical
  exact if h : ∃ sz, Cnts L o V sz then h.choose else 0
theorem cntOf_eq {L sz : Nat} {o : Int → Int} {V : Int → Option Fun} (h : Cnts L o V sz) : cntOf L o V = sz := by
  classical
  have hx : ∃ sz, Cnts L o V sz := ⟨sz, h⟩
  unfold cntOf
  rw [dif_pos hx]
  exact hx.choose_spec.one h

/-- one function more -/
def Abs.add (A : Abs) (F : Fun) : Abs := { A with la := A.la + 1, fs := A.fs ++ [(A.la + 1, F)] }
/-- WHAT COMES OF ONE FUNCTION MORE: the handle, the error, the store behind -/
noncomputable def outcome (A : Abs) (F : Fun) : Int × Int × Abs :=
  if 60 ≤ A.fs.length then (0, 4, A) else if A.lim < (cntOf A.n A.o (Vof (A.add F).fs) : Int) then (0, 5, A) else (A.la + 1, 0, A.add F)
theorem AbsOk.new {A : Abs} (h : AbsOk A) : ∀ p ∈ A.fs, p.1 ≠ A.la + 1 := fun p hp => by have := h.hs p hp; omega
theorem AbsOk.add {A : Abs} (h : AbsOk A) (hl : A.fs.length < 60) (F : Fun) : AbsOk (A.add F) := by
  refine ⟨h.n1, h.n8, by have := h.la0; simp [Abs.add]; omega, fun p hp => ?_, ?_, by simp [Abs.add]; omega⟩
  · have hla := h.la0
    simp only [Abs.add, List.mem_append, List.mem_singleton] at hp
    show _ ∧ _ ≤ A.la + 1
    rcases hp with hp | rfl
    · have := h.hs p hp; omega
    · simp; omega
  · simp only [Abs.add, List.map_append, List.map_cons, List.map_nil]
    rw [List.nodup_append]
    refine ⟨h.nd, by simp, fun a ha b hb e => ?_⟩
    simp at hb
    subst hb
    obtain ⟨p, hp, e2⟩ := List.mem_map.1 ha
    exact h.new p hp (by rw [e2, e])
theorem AbsOk.outcome {A : Abs} (h : AbsOk A) (F : Fun) : AbsOk (outcome A F).2.2 := by
  unfold Go.Proofs.YtmgjegokkbghlaaGreat.outcome
  split
  · exact h
  · split
    · exact h
    · exact h.add (by omega) F

theorem once_len : ∀ (l acc : List Int), (once acc l).length ≤ acc.length + l.length
  | [], acc => by simp [once]
  | x :: r, acc => by
    rw [once]
    have := once_len r (if acc.contains x then acc else acc ++ [x])
    split at this <;> simp at this ⊢ <;> first | omega | (split <;> simp_all <;> omega)
theorem two_len (N : Tab) (k : Int) : ∀ nm : List Int, (nm.flatMap fun x => [part N x k false, part N x k true]).length = 2 * nm.length
  | [] => rfl
  | a :: l => by
    have := two_len N k l
    simp only [List.flatMap_cons, List.length_append, List.length_cons, List.length_nil, this]
    omega
theorem rch_end {N : Tab} {f x : Int} (hr : Rch N f x) : ∃ n, N x = some n := by
  induction hr with
  | self h => exact ⟨_, h⟩
  | lo _ _ ih => exact ih
  | hi _ _ ih => exact ih
theorem total_le (N : Tab) : ∀ (d : Nat) (k : Int) (nm : List Int), total N d k nm ≤ nm.length * (2 ^ d - 1)
  | 0, _, _ => by simp [total]
  | d + 1, k, nm => by
    have h1 : (atLv N k nm).length ≤ nm.length := List.length_filter_le _ _
    have h2 := total_le N d (k + 1) (nextN N k nm)
    have h3 : (nextN N k nm).length ≤ 2 * nm.length := by
      unfold nextN
      have := once_len (nm.flatMap fun x => [part N x k false, part N x k true]) []
      rw [two_len N k nm] at this
      simpa using this
    have hp : 0 < 2 ^ d := Nat.pow_pos (by omega)
    obtain ⟨q, hq⟩ : ∃ q, 2 ^ d = q + 1 := ⟨2 ^ d - 1, by omega⟩
    rw [total, Nat.pow_succ, hq]
    rw [hq] at h2
    have h4 : (nextN N k nm).length * (q + 1 - 1) ≤ 2 * nm.length * q := by rw [Nat.add_sub_cancel]; exact Nat.mul_le_mul_right q h3
    have h5 : (q + 1) * 2 - 1 = 2 * q + 1 := by omega
    have h6 : nm.length * (2 * q + 1) = nm.length + 2 * nm.length * q := by rw [Nat.mul_add, Nat.mul_one, Nat.mul_left_comm, Nat.mul_assoc]; omega
    rw [h5, h6]
    omega

/-- names of the functions, in a table, and how many nodes there are -/
theorem Cnts.names {n sz : Nat} {o : Int → Int} {fs : List (Int × Fun)} (h : Cnts n o (Vof fs) sz) (hnd : (fs.map (·.1)).Nodup) (hlen : fs.length ≤ 61) :
    ∃ (N : Tab) (last : Int) (od : Ord n) (g : Int → Int), Wf N (n : Int) last ∧ (∀ p ∈ fs, Ok N 0 (g p.1) ∧ FV N od (g p.1) = p.2) ∧ sz = total N n 0 (once [] (fs.map fun p => g p.1)) ∧ ∀ k, 0 ≤ k → k < (n : Int) → od.at_ k = o k := by
  obtain ⟨w, s, hb, t, bn, bm, nh, od, lim, given, N, last, H, hst, ht, hV, ho⟩ := h
  have hn8 : n ≤ 8 := by have := hst.tab.wf.tops; omega
  have hg : ∀ p ∈ fs, ∃ f, H p.1 = some f ∧ FV N od f = p.2 := by
    intro p hp
    have h1 := hV p.1
    rw [Vof_mem hnd p hp] at h1
    exact Option.map_eq_some_iff.1 h1.symm
  have hg2 : ∀ p ∈ fs, Ok N 0 ((H p.1).getD 0) ∧ FV N od ((H p.1).getD 0) = p.2 := by
    intro p hp
    obtain ⟨f, e1, e2⟩ := hg p hp
    rw [e1]
    exact ⟨hst.ok _ _ e1, e2⟩
  refine ⟨N, last, od, fun h => (H h).getD 0, hst.tab.wf, hg2, ?_, ho⟩
  have hoks : ∀ y ∈ once [] (fs.map fun p => (H p.1).getD 0), Ok N 0 y := by
    intro y hy
    rw [mem_once] at hy
    rcases hy with hy | hy
    · cases hy
    · obtain ⟨p, hp, rfl⟩ := List.mem_map.1 hy
      exact (hg2 p hp).1
  obtain ⟨l, hd, hl, hm, _⟩ := count_names hst.tab.wf n 0 (once [] (fs.map fun p => (H p.1).getD 0)) (by omega) (by omega) (by omega) (once_nodup _ _ List.nodup_nil) hoks
  rw [← hl]
  have hlb : l.length < 1000000 := by
    rw [hl]
    have h1 := total_le N n 0 (once [] (fs.map fun p => (H p.1).getD 0))
    have h2 := once_len (fs.map fun p => (H p.1).getD 0) []
    simp at h2
    have h3 : 2 ^ n ≤ 2 ^ 8 := Nat.pow_le_pow_right (by omega) hn8
    have h4 : (once [] (fs.map fun p => (H p.1).getD 0)).length * (2 ^ n - 1) ≤ 61 * 255 := Nat.mul_le_mul (by omega) (by omega)
    omega
  have hmem : ∀ x, (∃ m, N x = some m) ↔ x ∈ l := by
    intro x
    rw [hm]
    constructor
    · rintro ⟨m, hx⟩
      obtain ⟨h, f, hf, hr⟩ := ht x m hx
      have h1 := hV h
      rw [hf] at h1
      have h2 := Vof_some h1
      refine ⟨f, ?_, hr⟩
      rw [mem_once]
      exact Or.inr (List.mem_map.2 ⟨_, h2, by simp [hf]⟩)
    · rintro ⟨y, _, hr⟩
      exact rch_end hr
  refine hst.tab.nodes.count l hd (fun x hx => ?_) hlb (fun key => ?_)
  · obtain ⟨m, hn⟩ := (hmem x).2 hx
    exact hst.tab.fits (ok_node hn)
  · constructor
    · intro hs
      unfold nodesG at hs
      split at hs
      · rename_i f
        simp at hs
        obtain ⟨m, hn⟩ := Option.isSome_iff_exists.1 hs
        exact ⟨f, (hmem f).1 ⟨m, hn⟩, rfl⟩
      · cases hs
    · rintro ⟨x, hx, rfl⟩
      obtain ⟨m, hn⟩ := (hmem x).2 hx
      simp [nodesG, hn]

/-! ### the document's store -/
/-- handles and texts -/
def hsOf (n : Nat) (fs : List (Int × Fun)) : List (Int × ByteArray) := fs.map fun p => (p.1, txt n p.2)
theorem hsOf_length (n : Nat) (fs : List (Int × Fun)) : (hsOf n fs).length = fs.length := by simp [hsOf]
theorem hsOf_find (n : Nat) (fs : List (Int × Fun)) (h : Int) : (hsOf n fs).find? (fun p => p.1 == h) = (fs.find? (fun p => p.1 == h)).map fun p => (p.1, txt n p.2) := by
  unfold hsOf
  rw [List.find?_map]
  rfl
theorem hsOf_some {n : Nat} {fs : List (Int × Fun)} {h : Int} {F : Fun} (hv : Vof fs h = some F) : (hsOf n fs).find? (fun p => p.1 == h) = some (h, txt n F) := by
  rw [hsOf_find]
  unfold Vof at hv
  obtain ⟨p, hp, rfl⟩ := Option.map_eq_some_iff.1 hv
  have h2 := List.find?_some hp
  simp at h2
  rw [hp, Option.map_some, h2]
theorem hsOf_none {n : Nat} {fs : List (Int × Fun)} {h : Int} (hv : Vof fs h = none) : (hsOf n fs).find? (fun p => p.1 == h) = none := by
  rw [hsOf_find]
  unfold Vof at hv
  rw [Option.map_eq_none_iff.1 hv]
  rfl
theorem hsOf_in {n : Nat} {fs : List (Int × Fun)} {h : Int} : IsIn (hsOf n fs) h = (Vof fs h).isSome := by
  unfold IsIn
  rw [hsOf_find]
  unfold Vof
  simp
theorem hsOf_hasT {n : Nat} {fs : List (Int × Fun)} {h : Int} {F : Fun} (hv : Vof fs h = some F) : HasT n (hsOf n fs) h F := ⟨_, hsOf_some hv, rfl⟩
theorem hsOf_left (n : Nat) (fs : List (Int × Fun)) (h : Int) : leftH (hsOf n fs) h = hsOf n (fs.filter fun p => p.1 != h) := by
  unfold leftH hsOf
  rw [List.filter_map]
  rfl

theorem RSt.order {w : World} {r n : Nat} {lim la : Int} {ov lv : Value} {o o' : Ord n} {hs : List (Int × ByteArray)} (h : RSt w r n lim la ov lv o hs) (he : ∀ k, 0 ≤ k → k < (n : Int) → o.at_ k = o'.at_ k) : RSt w r n lim la ov lv o' hs := by
  obtain ⟨c0, c1, c2, c3, fr, held, ⟨ob, cap, e, h1, h2, h3⟩, lr⟩ := h
  exact ⟨c0, c1, c2, c3, fr, held, ⟨ob, cap, e, h1, h2, fun k hk => by rw [← he k (by omega) (by omega)]; exact h3 k hk⟩, lr⟩
theorem RSt.keeps {w w' : World} {r n : Nat} {lim la : Int} {ov lv : Value} {o : Ord n} {hs : List (Int × ByteArray)} {S : List Nat} (h : RSt w r n lim la ov lv o hs) (hk : Keeps S w w') (hr : r ∉ S) (hl : ∀ g, lv.ownBlock = some g → g ∉ S) (ho : ∀ g, ov.ownBlock = some g → g ∉ S) : RSt w' r n lim la ov lv o hs := by
  have hlr : r < w.heap.size := cell_lt (p := ⟨r, 0, none⟩) h.c0
  obtain ⟨ob, cap, e, h1, h2, h3⟩ := h.ord
  exact ⟨hk.cell h.c0 hr, hk.cell h.c1 hr, hk.cell h.c2 hr, hk.cell h.c3 hr, fun j => (hk.frozen (p := ⟨r, j, none⟩) hlr hr).trans (h.fr j), h.held.keeps hk hr hl, ⟨ob, cap, e, h1, h2, fun k hk' => hk.cell (h3 k hk') (ho ob (by rw [e]; rfl))⟩, h.lr⟩

/-- THE DOCUMENT'S STORE holds that -/
def RS (w : World) (r : Nat) (A : Abs) (ov lv : Value) : Prop := ∃ o : Ord A.n, (∀ k, 0 ≤ k → k < (A.n : Int) → o.at_ k = A.o k) ∧ RSt w r A.n A.lim A.la ov lv o (hsOf A.n A.fs)
theorem RS.keeps {w w' : World} {r : Nat} {A : Abs} {ov lv : Value} {S : List Nat} (h : RS w r A ov lv) (hk : Keeps S w w') (hr : r ∉ S) (hl : ∀ g, lv.ownBlock = some g → g ∉ S) (ho : ∀ g, ov.ownBlock = some g → g ∉ S) : RS w' r A ov lv := by
  obtain ⟨o, h1, h2⟩ := h
  exact ⟨o, h1, h2.keeps hk hr hl ho⟩

/-- what 'hold' of the document's store comes to -/
def RMade (w : World) (r : Nat) (A : Abs) (ov lv : Value) (F : Fun) (x y : Int) (w' : World) : Prop :=
  x = (outcome A F).1 ∧ y = (outcome A F).2.1 ∧ ∃ lv', RS w' r (outcome A F).2.2 ov lv' ∧ Keeps (r :: lv.ownBlock.toList) w w' ∧ (lv'.ownBlock = lv.ownBlock ∨ ∃ g, lv'.ownBlock = some g ∧ w.heap.size ≤ g)

theorem rhold_by {w : World} {r : Nat} {A : Abs} {ov lv : Value} (h : RS w r A ov lv) (hA : AbsOk A) (F : Fun) (hc : A.fs.length < 60 → ∃ sz, Cnts A.n A.o (Vof (A.add F).fs) sz) (hla : A.la < 4611686018427387904) : HoldsR w r (txt A.n F) (RMade w r A ov lv F) := by
  intro w1 hk
  have h1 := h.keeps hk (by simp) (by simp) (by simp)
  obtain ⟨o, ho, hR⟩ := h1
  by_cases h60 : 60 ≤ A.fs.length
  · refine (rhold_many hR (by rw [hsOf_length]; exact h60) (by rw [hsOf_length]; have := hA.len; omega) _).mono ?_
    rintro e w' ⟨rfl, rfl⟩
    refine ⟨_, _, rfl, ?_⟩
    unfold RMade outcome
    rw [if_pos h60]
    exact ⟨rfl, rfl, lv, h.keeps hk (by simp) (by simp) (by simp), hk.mono (by simp), Or.inl rfl⟩
  · obtain ⟨sz, hsz⟩ := hc (by omega)
    have hA' := hA.add (by omega) F
    obtain ⟨N, last, od, g, hw, hg, hcount, hod⟩ := hsz.names hA'.nd (by have := hA'.len; omega)
    have hmem : ∀ p ∈ A.fs, p ∈ (A.add F).fs := fun p hp => by simp [Abs.add, hp]
    have hlast : (A.la + 1, F) ∈ (A.add F).fs := by simp [Abs.add]
    have e1 : hT N od (A.fs.map fun p => (p.1, g p.1)) = hsOf A.n A.fs := by
      unfold hT hsOf T
      rw [List.map_map]
      refine List.map_congr_left (fun p hp => ?_)
      simp only [Function.comp]
      rw [(hg p (hmem p hp)).2]
    have e2 : T N od (g (A.la + 1)) = txt A.n F := by unfold T; rw [(hg _ hlast).2]
    have e3 : hT N od ((A.fs.map fun p => (p.1, g p.1)) ++ [(A.la + 1, g (A.la + 1))]) = hsOf A.n (A.add F).fs := by
      unfold hT hsOf T Abs.add
      rw [List.map_append, List.map_append, List.map_map]
      congr 1
      · refine List.map_congr_left (fun p hp => ?_)
        simp only [Function.comp]
        rw [(hg p (hmem p hp)).2]
      · simp [(hg _ hlast).2]
    have hR' := hR.order (o' := od) (fun k k0 k1 => (ho k k0 k1).trans (hod k k0 k1).symm)
    rw [← e1] at hR'
    have hcnt : heldCount N A.n (A.fs.map fun p => (p.1, g p.1)) (g (A.la + 1)) = sz := by
      rw [hcount]
      unfold heldCount
      congr 2
      simp [Abs.add, List.map_map, Function.comp]
    rw [← e2]
    refine (rhold_few hw (by have := hA.n1; omega) hA.n8 hR' (fun p hp => ?_) (hg _ hlast).1 (by simp; omega) hA.la0 hla).mono ?_
    · obtain ⟨q, hq, rfl⟩ := List.mem_map.1 hp
      exact (hg q (hmem q hq)).1
    · intro e w' hh
      rw [hcnt] at hh
      have hcq := cntOf_eq hsz
      unfold RMade outcome
      rw [if_neg h60, hcq]
      by_cases hl : A.lim < (sz : Int)
      · rw [if_pos hl] at hh
        obtain ⟨rfl, hk2⟩ := hh
        rw [if_pos hl]
        exact ⟨_, _, rfl, rfl, rfl, lv, h.keeps (hk.trans hk2) (by simp) (by simp) (by simp), (hk.trans hk2).mono (by simp), Or.inl rfl⟩
      · rw [if_neg hl] at hh
        obtain ⟨rfl, lv', hR2, hk2, hat⟩ := hh
        rw [if_neg hl]
        rw [e3] at hR2
        refine ⟨_, _, rfl, rfl, rfl, lv', ⟨od, hod, hR2⟩, (hk.mono (by simp)).trans hk2, ?_⟩
        rcases hat with e | ⟨g', e, hg'⟩
        · exact Or.inl e
        · exact Or.inr ⟨g', e, by have := hk.size; omega⟩

end Go.Proofs.YtmgjegokkbghlaaGreat
