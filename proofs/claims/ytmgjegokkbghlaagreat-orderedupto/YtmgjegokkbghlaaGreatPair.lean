/- What a store holds, told plainly; what comes of one function more; the document's store by it. Whose a block is; the program's store, told plainly; its calls. The document's store, told plainly: its calls. Questions to both stores: Same, Value, Count, Nodes; New. -/
import Derived.Test.YtmgjegokkbghlaaGreatSizeOne
import Derived.Test.YtmgjegokkbghlaaGreatRefHold
import Derived.Test.YtmgjegokkbghlaaGreatRefNo
import Derived.Test.YtmgjegokkbghlaaGreatProgNo
import Derived.Test.YtmgjegokkbghlaaGreatNew
namespace Go.Proofs.YtmgjegokkbghlaaGreat
open Go.RowKit Go.Maps Bdd
set_option linter.unusedVariables false

/-- WHAT A STORE HOLDS: how many variables, the limit, the last handle, the order, the functions in the order in which they came. -/
structure Abs where
  n : Nat
  lim : Int
  la : Int
  o : Int → Int
  fs : List (Int × Fun)
/-- the function of a handle -/
def Vof (fs : List (Int × Fun)) (h : Int) : Option Fun := (fs.find? (fun p => p.1 == h)).map (·.2)
structure AbsOk (A : Abs) : Prop where
  n1 : 1 ≤ A.n
  n8 : A.n ≤ 8
  la0 : 0 ≤ A.la
  hs : ∀ p ∈ A.fs, 1 ≤ p.1 ∧ p.1 ≤ A.la
  nd : (A.fs.map (·.1)).Nodup
  len : A.fs.length ≤ 60

theorem find_none {fs : List (Int × Fun)} {h : Int} (hn : ∀ p ∈ fs, p.1 ≠ h) : fs.find? (fun p => p.1 == h) = none := by
  rw [List.find?_eq_none]
  intro p hp
  simpa using hn p hp
theorem Vof_none {fs : List (Int × Fun)} {h : Int} (hn : ∀ p ∈ fs, p.1 ≠ h) : Vof fs h = none := by rw [Vof, find_none hn]; rfl
theorem Vof_add {fs : List (Int × Fun)} {h : Int} (hn : ∀ p ∈ fs, p.1 ≠ h) (F : Fun) : Vof (fs ++ [(h, F)]) = addV (Vof fs) h F := by
  funext x
  unfold addV
  by_cases e : x = h
  · subst e
    rw [if_pos rfl, Vof, List.find?_append, find_none hn]
    simp
  · rw [if_neg e, Vof, Vof, List.find?_append]
    cases hx : fs.find? (fun p => p.1 == x) with
    | some p => rfl
    | none =>
      have : (h == x) = false := by simp; exact fun e' => e e'.symm
      simp [this]
theorem Vof_mem {fs : List (Int × Fun)} (hn : (fs.map (·.1)).Nodup) : ∀ p ∈ fs, Vof fs p.1 = some p.2 := by
  induction fs with
  | nil => intro p hp; cases hp
  | cons q r ih =>
    intro p hp
    simp only [List.map_cons, List.nodup_cons] at hn
    rcases List.mem_cons.1 hp with rfl | hp
    · simp [Vof]
    · have hne : q.1 ≠ p.1 := fun e => hn.1 (by rw [e]; exact List.mem_map.2 ⟨p, hp, rfl⟩)
      have := ih hn.2 p hp
      unfold Vof at this ⊢
      rw [List.find?_cons_of_neg (by simpa using hne)]
      exact this
theorem Vof_some {fs : List (Int × Fun)} {h : Int} {F : Fun} (hv : Vof fs h = some F) : (h, F) ∈ fs := by
  unfold Vof at hv
  obtain ⟨p, hp, rfl⟩ := Option.map_eq_some_iff.1 hv
  have h1 := List.mem_of_find?_eq_some hp
  have h2 := List.find?_some hp
  simp at h2
  rw [← h2]
  exact h1
theorem Vof_del (fs : List (Int × Fun)) (h : Int) : Vof (fs.filter fun p => p.1 != h) = delV (Vof fs) h := by
  funext x
  unfold delV
  by_cases e : x = h
  · subst e
    rw [if_pos rfl]
    exact Vof_none (fun p hp => by have := (List.mem_filter.1 hp).2; simpa using this)
  · rw [if_neg e]
    induction fs with
    | nil => rfl
    | cons q r ih =>
      by_cases eq : q.1 = h
      · rw [List.filter_cons_of_neg (by simp [eq]), ih]
        have : (q.1 == x) = false := by simp; exact fun e' => e (by rw [← e', eq])
        simp [Vof, this]
      · rw [List.filter_cons_of_pos (by simp [eq])]
        unfold Vof at ih ⊢
        simp only [List.find?_cons]
        cases (q.1 == x) with
        | true => rfl
        | false => exact ih
theorem filter_len {fs : List (Int × Fun)} {h : Int} (hn : (fs.map (·.1)).Nodup) {F : Fun} (hm : (h, F) ∈ fs) : (fs.filter fun p => p.1 != h).length = fs.length - 1 := by
  induction fs with
  | nil => cases hm
  | cons q r ih =>
    simp only [List.map_cons, List.nodup_cons] at hn
    rcases List.mem_cons.1 hm with e | hm
    · subst e
      rw [List.filter_cons_of_neg (by simp)]
      have : r.filter (fun p => p.1 != h) = r := List.filter_eq_self.2 (fun p hp => by
        simp only [bne_iff_ne, ne_eq]
        exact fun e => hn.1 (List.mem_map.2 ⟨p, hp, e⟩))
      rw [this]; simp
    · have hne : q.1 ≠ h := fun e => hn.1 (by rw [e]; exact List.mem_map.2 ⟨_, hm, rfl⟩)
      rw [List.filter_cons_of_pos (by simp [hne]), List.length_cons, ih hn.2 hm, List.length_cons]
      have : 0 < r.length := List.length_pos_of_mem hm
      omega

noncomputable def cntOf (L : Nat) (o : Int → Int) (V : Int → Option Fun) : Nat := by
  classical
  exact if h : ∃ sz, Cnts L o V sz then h.choose else 0
theorem cntOf_eq {L sz : Nat} {o : Int → Int} {V : Int → Option Fun} (h : Cnts L o V sz) : cntOf L o V = sz := by
  classical
  have hx : ∃ sz, Cnts L o V sz := ⟨sz, h⟩
  unfold cntOf
  rw [dif_pos hx]
  exact hx.choose_spec.one h

/-- one function more -/
def Abs.add (A : Abs) (F : Fun) : Abs := { A with la := A.la + 1, fs := A.fs ++ [(A.la + 1, F)] }
/-- WHAT COMES OF ONE FUNCTION MORE: the handle, the error, the store behind -/
noncomputable def outcome (A : Abs) (F : Fun) : Int × Int × Abs :=
  if 60 ≤ A.fs.length then (0, 4, A) else if A.lim < (cntOf A.n A.o (Vof (A.add F).fs) : Int) then (0, 5, A) else (A.la + 1, 0, A.add F)
theorem AbsOk.new {A : Abs} (h : AbsOk A) : ∀ p ∈ A.fs, p.1 ≠ A.la + 1 := fun p hp => by have := h.hs p hp; omega
theorem AbsOk.add {A : Abs} (h : AbsOk A) (hl : A.fs.length < 60) (F : Fun) : AbsOk (A.add F) := by
  refine ⟨h.n1, h.n8, by have := h.la0; simp [Abs.add]; omega, fun p hp => ?_, ?_, by simp [Abs.add]; omega⟩
  · have hla := h.la0
    simp only [Abs.add, List.mem_append, List.mem_singleton] at hp
    show _ ∧ _ ≤ A.la + 1
    rcases hp with hp | rfl
    · have := h.hs p hp; omega
    · simp; omega
  · simp only [Abs.add, List.map_append, List.map_cons, List.map_nil]
    rw [List.nodup_append]
    refine ⟨h.nd, by simp, fun a ha b hb e => ?_⟩
    simp at hb
    subst hb
    obtain ⟨p, hp, e2⟩ := List.mem_map.1 ha
    exact h.new p hp (by rw [e2, e])
theorem AbsOk.outcome {A : Abs} (h : AbsOk A) (F : Fun) : AbsOk (outcome A F).2.2 := by
  unfold Go.Proofs.YtmgjegokkbghlaaGreat.outcome
  split
  · exact h
  · split
    · exact h
    · exact h.add (by omega) F

theorem once_len : ∀ (l acc : List Int), (once acc l).length ≤ acc.length + l.length
  | [], acc => by simp [once]
  | x :: r, acc => by
    rw [once]
    have := once_len r (if acc.contains x then acc else acc ++ [x])
    split at this <;> simp at this ⊢ <;> first | omega | (split <;> simp_all <;> omega)
theorem two_len (N : Tab) (k : Int) : ∀ nm : List Int, (nm.flatMap fun x => [part N x k false, part N x k true]).length = 2 * nm.length
  | [] => rfl
  | a :: l => by
    have := two_len N k l
    simp only [List.flatMap_cons, List.length_append, List.length_cons, List.length_nil, this]
    omega
theorem rch_end {N : Tab} {f x : Int} (hr : Rch N f x) : ∃ n, N x = some n := by
  induction hr with
  | self h => exact ⟨_, h⟩
  | lo _ _ ih => exact ih
  | hi _ _ ih => exact ih
theorem total_le (N : Tab) : ∀ (d : Nat) (k : Int) (nm : List Int), total N d k nm ≤ nm.length * (2 ^ d - 1)
  | 0, _, _ => by simp [total]
  | d + 1, k, nm => by
    have h1 : (atLv N k nm).length ≤ nm.length := List.length_filter_le _ _
    have h2 := total_le N d (k + 1) (nextN N k nm)
    have h3 : (nextN N k nm).length ≤ 2 * nm.length := by
      unfold nextN
      have := once_len (nm.flatMap fun x => [part N x k false, part N x k true]) []
      rw [two_len N k nm] at this
      simpa using this
    have hp : 0 < 2 ^ d := Nat.pow_pos (by omega)
    obtain ⟨q, hq⟩ : ∃ q, 2 ^ d = q + 1 := ⟨2 ^ d - 1, by omega⟩
    rw [total, Nat.pow_succ, hq]
    rw [hq] at h2
    have h4 : (nextN N k nm).length * (q + 1 - 1) ≤ 2 * nm.length * q := by rw [Nat.add_sub_cancel]; exact Nat.mul_le_mul_right q h3
    have h5 : (q + 1) * 2 - 1 = 2 * q + 1 := by omega
    have h6 : nm.length * (2 * q + 1) = nm.length + 2 * nm.length * q := by rw [Nat.mul_add, Nat.mul_one, Nat.mul_left_comm, Nat.mul_assoc]; omega
    rw [h5, h6]
    omega

/-- names of the functions, in a table, and how many nodes there are -/
theorem Cnts.names {n sz : Nat} {o : Int → Int} {fs : List (Int × Fun)} (h : Cnts n o (Vof fs) sz) (hnd : (fs.map (·.1)).Nodup) (hlen : fs.length ≤ 61) :
    ∃ (N : Tab) (last : Int) (od : Ord n) (g : Int → Int), Wf N (n : Int) last ∧ (∀ p ∈ fs, Ok N 0 (g p.1) ∧ FV N od (g p.1) = p.2) ∧ sz = total N n 0 (once [] (fs.map fun p => g p.1)) ∧ ∀ k, 0 ≤ k → k < (n : Int) → od.at_ k = o k := by
  obtain ⟨w, s, hb, t, bn, bm, nh, od, lim, given, N, last, H, hst, ht, hV, ho⟩ := h
  have hn8 : n ≤ 8 := by have := hst.tab.wf.tops; omega
  have hg : ∀ p ∈ fs, ∃ f, H p.1 = some f ∧ FV N od f = p.2 := by
    intro p hp
    have h1 := hV p.1
    rw [Vof_mem hnd p hp] at h1
    exact Option.map_eq_some_iff.1 h1.symm
  have hg2 : ∀ p ∈ fs, Ok N 0 ((H p.1).getD 0) ∧ FV N od ((H p.1).getD 0) = p.2 := by
    intro p hp
    obtain ⟨f, e1, e2⟩ := hg p hp
    rw [e1]
    exact ⟨hst.ok _ _ e1, e2⟩
  refine ⟨N, last, od, fun h => (H h).getD 0, hst.tab.wf, hg2, ?_, ho⟩
  have hoks : ∀ y ∈ once [] (fs.map fun p => (H p.1).getD 0), Ok N 0 y := by
    intro y hy
    rw [mem_once] at hy
    rcases hy with hy | hy
    · cases hy
    · obtain ⟨p, hp, rfl⟩ := List.mem_map.1 hy
      exact (hg2 p hp).1
  obtain ⟨l, hd, hl, hm, _⟩ := count_names hst.tab.wf n 0 (once [] (fs.map fun p => (H p.1).getD 0)) (by omega) (by omega) (by omega) (once_nodup _ _ List.nodup_nil) hoks
  rw [← hl]
  have hlb : l.length < 1000000 := by
    rw [hl]
    have h1 := total_le N n 0 (once [] (fs.map fun p => (H p.1).getD 0))
    have h2 := once_len (fs.map fun p => (H p.1).getD 0) []
    simp at h2
    have h3 : 2 ^ n ≤ 2 ^ 8 := Nat.pow_le_pow_right (by omega) hn8
    have h4 : (once [] (fs.map fun p => (H p.1).getD 0)).length * (2 ^ n - 1) ≤ 61 * 255 := Nat.mul_le_mul (by omega) (by omega)
    omega
  have hmem : ∀ x, (∃ m, N x = some m) ↔ x ∈ l := by
    intro x
    rw [hm]
    constructor
    · rintro ⟨m, hx⟩
      obtain ⟨h, f, hf, hr⟩ := ht x m hx
      have h1 := hV h
      rw [hf] at h1
      have h2 := Vof_some h1
      refine ⟨f, ?_, hr⟩
      rw [mem_once]
      exact Or.inr (List.mem_map.2 ⟨_, h2, by simp [hf]⟩)
    · rintro ⟨y, _, hr⟩
      exact rch_end hr
  refine hst.tab.nodes.count l hd (fun x hx => ?_) hlb (fun key => ?_)
  · obtain ⟨m, hn⟩ := (hmem x).2 hx
    exact hst.tab.fits (ok_node hn)
  · constructor
    · intro hs
      unfold nodesG at hs
      split at hs
      · rename_i f
        simp at hs
        obtain ⟨m, hn⟩ := Option.isSome_iff_exists.1 hs
        exact ⟨f, (hmem f).1 ⟨m, hn⟩, rfl⟩
      · cases hs
    · rintro ⟨x, hx, rfl⟩
      obtain ⟨m, hn⟩ := (hmem x).2 hx
      simp [nodesG, hn]

/-! ### the document's store -/
/-- handles and texts -/
def hsOf (n : Nat) (fs : List (Int × Fun)) : List (Int × ByteArray) := fs.map fun p => (p.1, txt n p.2)
theorem hsOf_length (n : Nat) (fs : List (Int × Fun)) : (hsOf n fs).length = fs.length := by simp [hsOf]
theorem hsOf_find (n : Nat) (fs : List (Int × Fun)) (h : Int) : (hsOf n fs).find? (fun p => p.1 == h) = (fs.find? (fun p => p.1 == h)).map fun p => (p.1, txt n p.2) := by
  unfold hsOf
  rw [List.find?_map]
  rfl
theorem hsOf_some {n : Nat} {fs : List (Int × Fun)} {h : Int} {F : Fun} (hv : Vof fs h = some F) : (hsOf n fs).find? (fun p => p.1 == h) = some (h, txt n F) := by
  rw [hsOf_find]
  unfold Vof at hv
  obtain ⟨p, hp, rfl⟩ := Option.map_eq_some_iff.1 hv
  have h2 := List.find?_some hp
  simp at h2
  rw [hp, Option.map_some, h2]
theorem hsOf_none {n : Nat} {fs : List (Int × Fun)} {h : Int} (hv : Vof fs h = none) : (hsOf n fs).find? (fun p => p.1 == h) = none := by
  rw [hsOf_find]
  unfold Vof at hv
  rw [Option.map_eq_none_iff.1 hv]
  rfl
theorem hsOf_in {n : Nat} {fs : List (Int × Fun)} {h : Int} : IsIn (hsOf n fs) h = (Vof fs h).isSome := by
  unfold IsIn
  rw [hsOf_find]
  unfold Vof
  simp
theorem hsOf_hasT {n : Nat} {fs : List (Int × Fun)} {h : Int} {F : Fun} (hv : Vof fs h = some F) : HasT n (hsOf n fs) h F := ⟨_, hsOf_some hv, rfl⟩
theorem hsOf_left (n : Nat) (fs : List (Int × Fun)) (h : Int) : leftH (hsOf n fs) h = hsOf n (fs.filter fun p => p.1 != h) := by
  unfold leftH hsOf
  rw [List.filter_map]
  rfl

theorem RSt.order {w : World} {r n : Nat} {lim la : Int} {ov lv : Value} {o o' : Ord n} {hs : List (Int × ByteArray)} (h : RSt w r n lim la ov lv o hs) (he : ∀ k, 0 ≤ k → k < (n : Int) → o.at_ k = o'.at_ k) : RSt w r n lim la ov lv o' hs := by
  obtain ⟨c0, c1, c2, c3, fr, held, ⟨ob, cap, e, h1, h2, h3⟩, lr⟩ := h
  exact ⟨c0, c1, c2, c3, fr, held, ⟨ob, cap, e, h1, h2, fun k hk => by rw [← he k (by omega) (by omega)]; exact h3 k hk⟩, lr⟩
theorem RSt.keeps {w w' : World} {r n : Nat} {lim la : Int} {ov lv : Value} {o : Ord n} {hs : List (Int × ByteArray)} {S : List Nat} (h : RSt w r n lim la ov lv o hs) (hk : Keeps S w w') (hr : r ∉ S) (hl : ∀ g, lv.ownBlock = some g → g ∉ S) (ho : ∀ g, ov.ownBlock = some g → g ∉ S) : RSt w' r n lim la ov lv o hs := by
  have hlr : r < w.heap.size := cell_lt (p := ⟨r, 0, none⟩) h.c0
  obtain ⟨ob, cap, e, h1, h2, h3⟩ := h.ord
  exact ⟨hk.cell h.c0 hr, hk.cell h.c1 hr, hk.cell h.c2 hr, hk.cell h.c3 hr, fun j => (hk.frozen (p := ⟨r, j, none⟩) hlr hr).trans (h.fr j), h.held.keeps hk hr hl, ⟨ob, cap, e, h1, h2, fun k hk' => hk.cell (h3 k hk') (ho ob (by rw [e]; rfl))⟩, h.lr⟩

/-- THE DOCUMENT'S STORE holds that -/
def RS (w : World) (r : Nat) (A : Abs) (ov lv : Value) : Prop := ∃ o : Ord A.n, (∀ k, 0 ≤ k → k < (A.n : Int) → o.at_ k = A.o k) ∧ RSt w r A.n A.lim A.la ov lv o (hsOf A.n A.fs)
theorem RS.keeps {w w' : World} {r : Nat} {A : Abs} {ov lv : Value} {S : List Nat} (h : RS w r A ov lv) (hk : Keeps S w w') (hr : r ∉ S) (hl : ∀ g, lv.ownBlock = some g → g ∉ S) (ho : ∀ g, ov.ownBlock = some g → g ∉ S) : RS w' r A ov lv := by
  obtain ⟨o, h1, h2⟩ := h
  exact ⟨o, h1, h2.keeps hk hr hl ho⟩

/-- what 'hold' of the document's store comes to -/
def RMade (w : World) (r : Nat) (A : Abs) (ov lv : Value) (F : Fun) (x y : Int) (w' : World) : Prop :=
  x = (outcome A F).1 ∧ y = (outcome A F).2.1 ∧ ∃ lv', RS w' r (outcome A F).2.2 ov lv' ∧ Keeps (r :: lv.ownBlock.toList) w w' ∧ (lv'.ownBlock = lv.ownBlock ∨ ∃ g, lv'.ownBlock = some g ∧ w.heap.size ≤ g)

theorem rhold_by {w : World} {r : Nat} {A : Abs} {ov lv : Value} (h : RS w r A ov lv) (hA : AbsOk A) (F : Fun) (hc : A.fs.length < 60 → ∃ sz, Cnts A.n A.o (Vof (A.add F).fs) sz) (hla : A.la < 4611686018427387904) : HoldsR w r (txt A.n F) (RMade w r A ov lv F) := by
  intro w1 hk
  have h1 := h.keeps hk (by simp) (by simp) (by simp)
  obtain ⟨o, ho, hR⟩ := h1
  by_cases h60 : 60 ≤ A.fs.length
  · refine (rhold_many hR (by rw [hsOf_length]; exact h60) (by rw [hsOf_length]; have := hA.len; omega) _).mono ?_
    rintro e w' ⟨rfl, rfl⟩
    refine ⟨_, _, rfl, ?_⟩
    unfold RMade outcome
    rw [if_pos h60]
    exact ⟨rfl, rfl, lv, h.keeps hk (by simp) (by simp) (by simp), hk.mono (by simp), Or.inl rfl⟩
  · obtain ⟨sz, hsz⟩ := hc (by omega)
    have hA' := hA.add (by omega) F
    obtain ⟨N, last, od, g, hw, hg, hcount, hod⟩ := hsz.names hA'.nd (by have := hA'.len; omega)
    have hmem : ∀ p ∈ A.fs, p ∈ (A.add F).fs := fun p hp => by simp [Abs.add, hp]
    have hlast : (A.la + 1, F) ∈ (A.add F).fs := by simp [Abs.add]
    have e1 : hT N od (A.fs.map fun p => (p.1, g p.1)) = hsOf A.n A.fs := by
      unfold hT hsOf T
      rw [List.map_map]
      refine List.map_congr_left (fun p hp => ?_)
      simp only [Function.comp]
      rw [(hg p (hmem p hp)).2]
    have e2 : T N od (g (A.la + 1)) = txt A.n F := by unfold T; rw [(hg _ hlast).2]
    have e3 : hT N od ((A.fs.map fun p => (p.1, g p.1)) ++ [(A.la + 1, g (A.la + 1))]) = hsOf A.n (A.add F).fs := by
      unfold hT hsOf T Abs.add
      rw [List.map_append, List.map_append, List.map_map]
      congr 1
      · refine List.map_congr_left (fun p hp => ?_)
        simp only [Function.comp]
        rw [(hg p (hmem p hp)).2]
      · simp [(hg _ hlast).2]
    have hR' := hR.order (o' := od) (fun k k0 k1 => (ho k k0 k1).trans (hod k k0 k1).symm)
    rw [← e1] at hR'
    have hcnt : heldCount N A.n (A.fs.map fun p => (p.1, g p.1)) (g (A.la + 1)) = sz := by
      rw [hcount]
      unfold heldCount
      congr 2
      simp [Abs.add, List.map_map, Function.comp]
    rw [← e2]
    refine (rhold_few hw (by have := hA.n1; omega) hA.n8 hR' (fun p hp => ?_) (hg _ hlast).1 (by simp; omega) hA.la0 hla).mono ?_
    · obtain ⟨q, hq, rfl⟩ := List.mem_map.1 hp
      exact (hg q (hmem q hq)).1
    · intro e w' hh
      rw [hcnt] at hh
      have hcq := cntOf_eq hsz
      unfold RMade outcome
      rw [if_neg h60, hcq]
      by_cases hl : A.lim < (sz : Int)
      · rw [if_pos hl] at hh
        obtain ⟨rfl, hk2⟩ := hh
        rw [if_pos hl]
        exact ⟨_, _, rfl, rfl, rfl, lv, h.keeps (hk.trans hk2) (by simp) (by simp) (by simp), (hk.trans hk2).mono (by simp), Or.inl rfl⟩
      · rw [if_neg hl] at hh
        obtain ⟨rfl, lv', hR2, hk2, hat⟩ := hh
        rw [if_neg hl]
        rw [e3] at hR2
        refine ⟨_, _, rfl, rfl, rfl, lv', ⟨od, hod, hR2⟩, (hk.mono (by simp)).trans hk2, ?_⟩
        rcases hat with e | ⟨g', e, hg'⟩
        · exact Or.inl e
        · exact Or.inr ⟨g', e, by have := hk.size; omega⟩

end Go.Proofs.YtmgjegokkbghlaaGreat

namespace Go.Proofs.YtmgjegokkbghlaaGreat
open Go.RowKit Go.Maps Bdd
set_option linter.unusedVariables false

/-- whose a block is: (0, 0) nobody's; (1, 0) the law's; (2, i), (3, i), (4, i) the stores' of the pair i; (5, j) the list's j -/
abbrev Tag := Nat × Nat
abbrev Own := Nat → Tag
def newOwn (own : Own) (w : World) (t : Tag) : Own := fun b => if b < w.heap.size then own b else t
/-- what is changed is of those, or new -/
def Onlys (own : Own) (T : Tag → Prop) (w w' : World) : Prop := ∃ S, Keeps S w w' ∧ ∀ b ∈ S, T (own b) ∨ w.heap.size ≤ b
/-- what is changed is t's, or new -/
abbrev Only (own : Own) (t : Tag) (w w' : World) : Prop := Onlys own (fun x => x = t) w w'
theorem Only.of {own : Own} {t : Tag} {w w' : World} {S : List Nat} (hk : Keeps S w w') (h : ∀ b ∈ S, own b = t) : Only own t w w' := ⟨S, hk, fun b hb => Or.inl (h b hb)⟩
theorem Onlys.nil {own : Own} {T : Tag → Prop} {w w' : World} (hk : Keeps [] w w') : Onlys own T w w' := ⟨[], hk, by simp⟩
theorem Only.nil {own : Own} {t : Tag} {w w' : World} (hk : Keeps [] w w') : Only own t w w' := Onlys.nil hk
theorem Onlys.size {own : Own} {T : Tag → Prop} {w w' : World} (h : Onlys own T w w') : w.heap.size ≤ w'.heap.size := by
  obtain ⟨S, hk, _⟩ := h
  exact hk.size
/-- a cell that is not theirs -/
theorem Onlys.cell {own : Own} {T : Tag → Prop} {w w' : World} (h : Onlys own T w w') {p : Addr} {v : Value} (hc : w.cell? p = some v) (hp : ¬ T (own p.block)) : w'.cell? p = some v := by
  obtain ⟨S, hk, g⟩ := h
  refine hk.cell hc (fun hin => ?_)
  rcases g _ hin with e | e
  · exact hp e
  · have := cell_lt hc; omega
theorem Onlys.frozen {own : Own} {T : Tag → Prop} {w w' : World} (h : Onlys own T w w') {p : Addr} (hlt : p.block < w.heap.size) (hp : ¬ T (own p.block)) : w'.frozen? p = w.frozen? p := by
  obtain ⟨S, hk, g⟩ := h
  refine hk.frozen hlt (fun hin => ?_)
  rcases g _ hin with e | e
  · exact hp e
  · omega
theorem row_keeps {w w' : World} {base : Nat} {e : TypeId} {size : Nat} {v : Value} {n : Nat} {xs : List Value} {S : List Nat} (h : w.ownsRow base e size v n xs) (hk : Keeps S w w') (hS : ∀ g, v.ownBlock = some g → g ∉ S) : w'.ownsRow base e size v n xs := by
  refine ⟨h.1, ?_⟩
  rcases h.2 with h' | ⟨g, cap, cur, rfl, hbg, hg, rest⟩
  · exact .inl h'
  · refine .inr ⟨g, cap, cur, rfl, hbg, ?_, rest⟩
    rw [hk.block g (Array.getElem?_eq_some_iff.1 hg).1 (hS g rfl)]
    exact hg
theorem Onlys.row {own : Own} {T : Tag → Prop} {w w' : World} {base : Nat} {e : TypeId} {size : Nat} {v : Value} {n : Nat} {xs : List Value} (ho : Onlys own T w w') (h : w.ownsRow base e size v n xs) (hp : ∀ g, v.ownBlock = some g → ¬ T (own g)) : w'.ownsRow base e size v n xs := by
  obtain ⟨S, hk, q⟩ := ho
  refine row_keeps h hk (fun g hg hin => ?_)
  rcases q _ hin with e | e
  · exact hp g hg e
  · have := (h.lt g hg).2; omega
theorem newOwn_stays {own : Own} {w : World} {t tg : Tag} {b : Nat} (h : b < w.heap.size) (e : own b = tg) : newOwn own w t b = tg := by unfold newOwn; rw [if_pos h]; exact e
theorem newOwn_old {own : Own} {w : World} {t : Tag} {b : Nat} (h : b < w.heap.size) : newOwn own w t b = own b := by unfold newOwn; rw [if_pos h]
theorem newOwn_new {own : Own} {w : World} {t : Tag} {b : Nat} (h : w.heap.size ≤ b) : newOwn own w t b = t := by unfold newOwn; rw [if_neg (by omega)]
theorem newOwn_same {own : Own} {w : World} {t : Tag} {b : Nat} (h : own b = t) : newOwn own w t b = t := by
  unfold newOwn
  split
  · exact h
  · rfl

theorem St.keepsB {w w' : World} {s hb t bn bm L nh sz : Nat} {od : Ord L} {lim given lb : Int} {V : Int → Option Fun} {S : List Nat} (h : St w s hb t bn bm od nh sz lim given V lb) (hk : Keeps S w w') (hS : ∀ i ∈ [s, hb, t, bn, bm, od.blk], i ∉ S) : St w' s hb t bn bm od nh sz lim given V lb := by
  obtain ⟨N, last, H, hst, r⟩ := h
  exact ⟨N, last, H, hst.keepsB hk hS, r⟩
theorem St.lts {w : World} {s hb t bn bm L nh sz : Nat} {od : Ord L} {lim given lb : Int} {V : Int → Option Fun} (h : St w s hb t bn bm od nh sz lim given V lb) : ∀ i ∈ [s, hb, t, bn, bm, od.blk], i < w.heap.size := by
  obtain ⟨N, last, H, hst, r⟩ := h
  exact hst.lts
theorem St.wider {w : World} {s hb t bn bm L nh sz : Nat} {od : Ord L} {lim given lb lb' : Int} {V : Int → Option Fun} (h : St w s hb t bn bm od nh sz lim given V lb) (hl : lb ≤ lb') : St w s hb t bn bm od nh sz lim given V lb' := by
  obtain ⟨N, last, H, h1, h2, h3, h4, r⟩ := h
  exact ⟨N, last, H, h1, h2, h3, by omega, r⟩

/-- THE PROGRAM'S STORE holds that -/
def PS (w : World) (own : Own) (tg : Tag) (s : Nat) (A : Abs) (lb : Int) : Prop :=
  ∃ (hb t bn bm : Nat) (od : Ord A.n) (sz : Nat), St w s hb t bn bm od A.fs.length sz A.lim A.la (Vof A.fs) lb ∧ (∀ k, 0 ≤ k → k < (A.n : Int) → od.at_ k = A.o k) ∧ ∀ b ∈ [s, hb, t, bn, bm, od.blk], own b = tg
theorem PS.frame {w w' : World} {own own' : Own} {tg : Tag} {s : Nat} {A : Abs} {lb : Int} (h : PS w own tg s A lb) {T : Tag → Prop} (ho : Onlys own T w w') (hne : ¬ T tg) (hown : ∀ b, b < w.heap.size → own b = tg → own' b = tg) : PS w' own' tg s A lb := by
  obtain ⟨hb, t, bn, bm, od, sz, h1, h2, h3⟩ := h
  have hl := h1.lts
  obtain ⟨S, hk, g⟩ := ho
  refine ⟨hb, t, bn, bm, od, sz, h1.keepsB hk (fun i hi hin => ?_), h2, fun b hb' => ?_⟩
  · rcases g i hin with e | e
    · exact hne (by rw [← h3 i hi]; exact e)
    · have := hl i hi; omega
  · exact hown b (hl b hb') (h3 b hb')
theorem PS.keeps {w w' : World} {own own' : Own} {tg : Tag} {s : Nat} {A : Abs} {lb : Int} (h : PS w own tg s A lb) (hk : Keeps [] w w') (hown : ∀ b, b < w.heap.size → own b = tg → own' b = tg) : PS w' own' tg s A lb := by
  obtain ⟨hb, t, bn, bm, od, sz, h1, h2, h3⟩ := h
  have hl := h1.lts
  exact ⟨hb, t, bn, bm, od, sz, h1.keepsB hk (by simp), h2, fun b hb' => hown b (hl b hb') (h3 b hb')⟩
theorem PS.wider {w : World} {own : Own} {tg : Tag} {s : Nat} {A : Abs} {lb lb' : Int} (h : PS w own tg s A lb) (hl : lb ≤ lb') : PS w own tg s A lb' := by
  obtain ⟨hb, t, bn, bm, od, sz, h1, h2, h3⟩ := h
  exact ⟨hb, t, bn, bm, od, sz, h1.wider hl, h2, h3⟩
/-- a function hangs on the store's variables alone -/
theorem PS.dep {w : World} {own : Own} {tg : Tag} {s : Nat} {A : Abs} {lb : Int} (h : PS w own tg s A lb) {f : Int} {F : Fun} (hf : Vof A.fs f = some F) : ∀ a b, (∀ i, 0 ≤ i → i < (A.n : Int) → a i = b i) → F a = F b := by
  obtain ⟨hb, t, bn, bm, od, sz, ⟨N, last, H, hst, k1, k2, _⟩, h2, h3⟩ := h
  obtain ⟨f0, e0, e1⟩ := St.has k2 hf
  intro a b hab
  rw [← e1]
  exact E_lev hst.tab.wf (hst.ok f f0 e0) (fun k k0 k1 => by have := od.r1 k k0 k1; exact hab _ this.1 this.2.1)
theorem PS.cnts {w : World} {own : Own} {tg : Tag} {s : Nat} {A : Abs} {lb : Int} (h : PS w own tg s A lb) : ∃ sz, Cnts A.n A.o (Vof A.fs) sz := by
  obtain ⟨hb, t, bn, bm, od, sz, h1, h2, h3⟩ := h
  exact ⟨sz, h1.cnts.congr h2⟩

/-- a function is made, or refused -/
def mk (A : Abs) (k a b c : Int) : Int ⊕ Fun :=
  if k = 2 then .inr (fun _ => a.tmod 2 != 0)
  else if k = 3 then (if 0 ≤ a ∧ a < (A.n : Int) then .inr (fun x => x a) else .inl 3)
  else if k = 4 then (match Vof A.fs a with
    | some F => .inr (fun x => !F x)
    | none => .inl 2)
  else if k = 5 then (match Vof A.fs b, Vof A.fs c with
    | some F, some G => if 0 ≤ a ∧ a ≤ 3 then .inr (fun x => app a (F x) (G x)) else .inl 1
    | _, _ => .inl 2)
  else (match Vof A.fs a, Vof A.fs b, Vof A.fs c with
    | some F, some G, some K => .inr (fun x => if F x then G x else K x)
    | _, _, _ => .inl 2)
noncomputable def madeOf (A : Abs) : Int ⊕ Fun → Int × Int × Abs
  | .inl e => (0, e, A)
  | .inr F => outcome A F
theorem AbsOk.made {A : Abs} (h : AbsOk A) : ∀ m, AbsOk (madeOf A m).2.2
  | .inl _ => h
  | .inr F => h.outcome F
/-- what the program's store makes of it -/
def MadeP (w : World) (own : Own) (tg : Tag) (s : Nat) (A : Abs) (lb : Int) (m : Int ⊕ Fun) (e : Ending) (w' : World) : Prop :=
  e = .returned (.tuple #[.int .i64 (madeOf A m).1, .int .i64 (madeOf A m).2.1]) ∧ (∀ F, m = .inr F → A.fs.length < 60 → ∃ sz, Cnts A.n A.o (Vof (A.add F).fs) sz) ∧ PS w' (newOwn own w tg) tg s (madeOf A m).2.2 (lb + 100000) ∧ Only own tg w w'
theorem MadeP.no {w w' : World} {own : Own} {tg : Tag} {s : Nat} {A : Abs} {lb x : Int} {e : Ending} (h : PS w own tg s A lb) (he : e = .returned (.tuple #[.int .i64 0, .int .i64 x])) (hk : Keeps [] w w') : MadeP w own tg s A lb (.inl x) e w' :=
  ⟨he, fun F hF => (by cases hF), (h.keeps hk (fun b hb e => newOwn_stays hb e)).wider (by omega), Only.nil hk⟩

theorem MadeP.yes {w w' : World} {own : Own} {tg : Tag} {s hb t bn bm sz : Nat} {A : Abs} {lb : Int} {od : Ord A.n} {F : Fun} {e : Ending} (hA : AbsOk A) (_h : St w s hb t bn bm od A.fs.length sz A.lim A.la (Vof A.fs) lb) (ho : ∀ k, 0 ≤ k → k < (A.n : Int) → od.at_ k = A.o k) (hown : ∀ b ∈ [s, hb, t, bn, bm, od.blk], own b = tg)
    (hh : Held1 w s hb t bn bm od A.fs.length A.lim A.la (Vof A.fs) lb F e w') : MadeP w own tg s A lb (.inr F) e w' := by
  have hn : ∀ b ∈ [s, hb, t, bn, bm, od.blk], newOwn own w tg b = tg := fun b hb => newOwn_same (hown b hb)
  have hV : Vof (A.add F).fs = addV (Vof A.fs) (A.la + 1) F := Vof_add hA.new F
  have hm : madeOf A (.inr F) = outcome A F := rfl
  unfold MadeP
  rw [hm]
  rcases hh with ⟨h1, h2, ⟨sz', h3⟩, h4⟩ | ⟨h1, sz2, h2, h3, h4⟩
  · have e1 : outcome A F = (0, 4, A) := by unfold outcome; rw [if_pos h1]
    rw [e1]
    exact ⟨h2, fun G _ hl => by omega, ⟨hb, t, bn, bm, od, sz', h3.wider (by omega), ho, hn⟩, Only.nil h4⟩
  · have hS : ∀ b ∈ [s, hb, t, bn, bm], own b = tg := fun b hb' => hown b (by simp at hb' ⊢; omega)
    rcases h4 with ⟨q1, q2, q3⟩ | ⟨q1, q2, ⟨sz3, q3⟩, w2, N2, last2, H2, q4, q5, q6⟩
    · have hc : Cnts A.n A.o (Vof (A.add F).fs) sz2 := by rw [hV]; exact q3.cnts.congr ho
      have e1 : outcome A F = (A.la + 1, 0, A.add F) := by
        unfold outcome
        rw [if_neg (by omega), cntOf_eq hc, if_neg (by omega)]
      rw [e1]
      refine ⟨q2, fun G hG _ => ⟨sz2, by cases hG; exact hc⟩, ⟨hb, t, bn, bm, od, sz2, ?_, ho, hn⟩, Only.of h3 hS⟩
      rw [hV]
      have : (A.add F).fs.length = A.fs.length + 1 := by simp [Abs.add]
      rw [this]
      exact q3
    · have hc : Cnts A.n A.o (Vof (A.add F).fs) sz2 := by rw [hV]; exact ⟨w2, s, hb, t, bn, bm, _, od, _, _, N2, last2, H2, q4, q5, q6, ho⟩
      have e1 : outcome A F = (0, 5, A) := by
        unfold outcome
        rw [if_neg (by omega), cntOf_eq hc, if_pos q1]
      rw [e1]
      exact ⟨q2, fun G hG _ => ⟨sz2, by cases hG; exact hc⟩, ⟨hb, t, bn, bm, od, sz3, q3, ho, hn⟩, Only.of h3 hS⟩

section
variable {w : World} {own : Own} {tg : Tag} {s : Nat} {A : Abs} {lb : Int}

theorem ps_constant (hA : AbsOk A) (h : PS w own tg s A lb) (hg : A.la + 1 ≤ 4611686018427387904) (a b c : Int) :
    Calls Tryz.prog 22 #[.pointer (some ⟨s, 0, none⟩), .bool (a.tmod 2 != 0)] w (MadeP w own tg s A lb (mk A 2 a b c)) := by
  obtain ⟨hb, t, bn, bm, od, sz, h1, h2, h3⟩ := h
  exact (constant_any h1 _ hg).mono (fun e w' hh => MadeP.yes hA h1 h2 h3 hh)
theorem ps_variable (hA : AbsOk A) (h : PS w own tg s A lb) (hg : A.la + 1 ≤ 4611686018427387904) (hlb : lb + 100000 ≤ 4611686018427387904) (a b c : Int) :
    Calls Tryz.prog 23 #[.pointer (some ⟨s, 0, none⟩), .int .i64 a] w (MadeP w own tg s A lb (mk A 3 a b c)) := by
  have h0 := h
  obtain ⟨hb, t, bn, bm, od, sz, h1, h2, h3⟩ := h
  by_cases hv : 0 ≤ a ∧ a < (A.n : Int)
  · have e : mk A 3 a b c = .inr (fun x => x a) := by simp [mk, hv]
    rw [e]
    exact (variable_any h1 hv.1 hv.2 hlb hg).mono (fun e w' hh => MadeP.yes hA h1 h2 h3 hh)
  · have e : mk A 3 a b c = .inl 3 := by simp [mk, hv]
    rw [e]
    exact (variable_bad h1 (by omega)).mono (fun e w' hh => MadeP.no h0 hh.1 hh.2)
theorem ps_not (hA : AbsOk A) (h : PS w own tg s A lb) (hg : A.la + 1 ≤ 4611686018427387904) (hlb : lb + 100000 ≤ 4611686018427387904) {a : Int} (ha : Fits a) (b c : Int) :
    Calls Tryz.prog 24 #[.pointer (some ⟨s, 0, none⟩), .int .i64 a] w (MadeP w own tg s A lb (mk A 4 a b c)) := by
  have h0 := h
  obtain ⟨hb, t, bn, bm, od, sz, h1, h2, h3⟩ := h
  cases hf : Vof A.fs a with
  | some F =>
    have e : mk A 4 a b c = .inr (fun x => !F x) := by simp [mk, hf]
    rw [e]
    exact (not_any h1 hf hlb hg).mono (fun e w' hh => MadeP.yes hA h1 h2 h3 hh)
  | none =>
    have e : mk A 4 a b c = .inl 2 := by simp [mk, hf]
    rw [e]
    exact (not_bad h1 ha hf).mono (fun e w' hh => MadeP.no h0 hh.1 hh.2)
theorem ps_apply (hA : AbsOk A) (h : PS w own tg s A lb) (hg : A.la + 1 ≤ 4611686018427387904) (hlb : lb + 100000 ≤ 4611686018427387904) (a : Int) {b c : Int} (hb' : Fits b) (hc' : Fits c) :
    Calls Tryz.prog 25 #[.pointer (some ⟨s, 0, none⟩), .int .i64 a, .int .i64 b, .int .i64 c] w (MadeP w own tg s A lb (mk A 5 a b c)) := by
  have h0 := h
  obtain ⟨hb, t, bn, bm, od, sz, h1, h2, h3⟩ := h
  cases hf : Vof A.fs b with
  | none =>
    have e : mk A 5 a b c = .inl 2 := by simp [mk, hf]
    rw [e]
    exact (apply_bad h1 hb' hc' (Or.inl hf)).mono (fun e w' hh => MadeP.no h0 hh.1 hh.2)
  | some F =>
    cases hf2 : Vof A.fs c with
    | none =>
      have e : mk A 5 a b c = .inl 2 := by simp [mk, hf, hf2]
      rw [e]
      exact (apply_bad h1 hb' hc' (Or.inr hf2)).mono (fun e w' hh => MadeP.no h0 hh.1 hh.2)
    | some G =>
      by_cases hv : 0 ≤ a ∧ a ≤ 3
      · have e : mk A 5 a b c = .inr (fun x => app a (F x) (G x)) := by simp [mk, hf, hf2, hv]
        rw [e]
        exact (apply_any h1 hf hf2 hv.1 hv.2 hlb hg).mono (fun e w' hh => MadeP.yes hA h1 h2 h3 hh)
      · have e : mk A 5 a b c = .inl 1 := by simp [mk, hf, hf2, hv]
        rw [e]
        exact (apply_range h1 hf hf2 (by omega)).mono (fun e w' hh => MadeP.no h0 hh.1 hh.2)
theorem ps_choose (hA : AbsOk A) (h : PS w own tg s A lb) (hg : A.la + 1 ≤ 4611686018427387904) (hlb : lb + 100000 ≤ 4611686018427387904) {a b c : Int} (ha' : Fits a) (hb' : Fits b) (hc' : Fits c) :
    Calls Tryz.prog 26 #[.pointer (some ⟨s, 0, none⟩), .int .i64 a, .int .i64 b, .int .i64 c] w (MadeP w own tg s A lb (mk A 6 a b c)) := by
  have h0 := h
  obtain ⟨hb, t, bn, bm, od, sz, h1, h2, h3⟩ := h
  have no : (Vof A.fs a = none ∨ Vof A.fs b = none ∨ Vof A.fs c = none) → Calls Tryz.prog 26 #[.pointer (some ⟨s, 0, none⟩), .int .i64 a, .int .i64 b, .int .i64 c] w (MadeP w own tg s A lb (mk A 6 a b c)) := by
    intro hno
    have e : mk A 6 a b c = .inl 2 := by
      unfold mk
      rw [if_neg (by omega), if_neg (by omega), if_neg (by omega), if_neg (by omega)]
      split
      · rename_i q1 q2 q3
        rcases hno with e | e | e
        · rw [e] at q1; cases q1
        · rw [e] at q2; cases q2
        · rw [e] at q3; cases q3
      · rfl
    rw [e]
    exact (choosec_bad h1 ha' hb' hc' hno).mono (fun e w' hh => MadeP.no h0 hh.1 hh.2)
  cases hf : Vof A.fs a with
  | none => exact no (Or.inl hf)
  | some F =>
    cases hf2 : Vof A.fs b with
    | none => exact no (Or.inr (Or.inl hf2))
    | some G =>
      cases hf3 : Vof A.fs c with
      | none => exact no (Or.inr (Or.inr hf3))
      | some K =>
        have e : mk A 6 a b c = .inr (fun x => if F x then G x else K x) := by simp [mk, hf, hf2, hf3]
        rw [e]
        exact (choosec_any h1 hf hf2 hf3 hlb hg).mono (fun e w' hh => MadeP.yes hA h1 h2 h3 hh)

/-- what is left behind a Release -/
def Abs.del (A : Abs) (f : Int) : Abs := { A with fs := A.fs.filter fun p => p.1 != f }
theorem AbsOk.del {A : Abs} (h : AbsOk A) (f : Int) : AbsOk (A.del f) := by
  refine ⟨h.n1, h.n8, h.la0, fun p hp => h.hs p (List.mem_filter.1 hp).1, ?_, Nat.le_trans (List.length_filter_le _ _) h.len⟩
  exact List.Nodup.sublist (List.Sublist.map _ List.filter_sublist) h.nd
/-- the error of a Release, and the store behind -/
def relOf (A : Abs) (f : Int) : Int × Abs := if (Vof A.fs f).isSome then (0, A.del f) else (2, A)
theorem ps_release (hA : AbsOk A) (h : PS w own tg s A lb) {f : Int} (hf : Fits f) :
    Calls Tryz.prog 16 #[.pointer (some ⟨s, 0, none⟩), .int .i64 f] w fun e w' => e = .returned (.int .i64 (relOf A f).1) ∧ PS w' (newOwn own w tg) tg s (relOf A f).2 lb ∧ Only own tg w w' := by
  have h0 := h
  obtain ⟨hb, t, bn, bm, od, sz, h1, h2, h3⟩ := h
  cases hv : Vof A.fs f with
  | none =>
    have e : relOf A f = (2, A) := by simp [relOf, hv]
    rw [e]
    refine (release_bad h1 hf hv).mono ?_
    rintro e w' ⟨rfl, hk⟩
    exact ⟨rfl, h0.keeps hk (fun b hb e => newOwn_stays hb e), Only.nil hk⟩
  | some F =>
    have e : relOf A f = (0, A.del f) := by simp [relOf, hv]
    rw [e]
    refine (release_any h1 hv).mono ?_
    rintro e w' ⟨rfl, ⟨sz', h4⟩, hk⟩
    have e2 : Vof (A.del f).fs = delV (Vof A.fs) f := Vof_del _ _
    have e3 : (A.del f).fs.length = A.fs.length - 1 := filter_len hA.nd (Vof_some hv)
    refine ⟨rfl, ⟨hb, t, bn, bm, od, sz', ?_, h2, fun b hb' => newOwn_same (h3 b hb')⟩, Only.of hk (fun b hb' => h3 b (by simp at hb' ⊢; omega))⟩
    rw [e2, e3]
    exact h4
end

end Go.Proofs.YtmgjegokkbghlaaGreat

namespace Go.Proofs.YtmgjegokkbghlaaGreat
open Go.RowKit Go.Maps Bdd
set_option linter.unusedVariables false

/-- THE DOCUMENT'S STORE holds that, and its blocks are its own -/
def RW (w : World) (own : Own) (tg : Tag) (r : Nat) (A : Abs) : Prop := ∃ ov lv, RS w r A ov lv ∧ own r = tg ∧ (∀ g, ov.ownBlock = some g → own g = tg) ∧ ∀ g, lv.ownBlock = some g → own g = tg
theorem RS.lr {w : World} {r : Nat} {A : Abs} {ov lv : Value} (h : RS w r A ov lv) : r < w.heap.size := by
  obtain ⟨o, _, h⟩ := h
  exact cell_lt (p := ⟨r, 0, none⟩) h.c0
theorem RS.lo {w : World} {r : Nat} {A : Abs} {ov lv : Value} (h : RS w r A ov lv) (hA : AbsOk A) : ∀ g, ov.ownBlock = some g → g < w.heap.size := by
  obtain ⟨o, _, h⟩ := h
  obtain ⟨ob, cap, e, h1, h2, h3⟩ := h.ord
  intro g hg
  rw [e] at hg
  have : g = ob := by have : some ob = some g := hg; simpa using this.symm
  subst this
  exact cell_lt (p := ⟨g, 0 + 0, none⟩) (h3 0 (by have := hA.n1; omega))
theorem RS.ll {w : World} {r : Nat} {A : Abs} {ov lv : Value} (h : RS w r A ov lv) : ∀ g, lv.ownBlock = some g → g < w.heap.size := by
  obtain ⟨o, _, h⟩ := h
  exact fun g hg => (h.held.own.lt g hg).2
theorem RW.frame {w w' : World} {own own' : Own} {tg : Tag} {r : Nat} {A : Abs} {T : Tag → Prop} (h : RW w own tg r A) (hA : AbsOk A) (ho : Onlys own T w w') (hne : ¬ T tg) (hown : ∀ b, b < w.heap.size → own b = tg → own' b = tg) : RW w' own' tg r A := by
  obtain ⟨ov, lv, h1, h2, h3, h4⟩ := h
  obtain ⟨S, hk, g⟩ := ho
  have no : ∀ b, b < w.heap.size → own b = tg → b ∉ S := fun b hb e hin => by
    rcases g b hin with e' | e'
    · exact hne (by rw [← e]; exact e')
    · omega
  refine ⟨ov, lv, h1.keeps hk (no r h1.lr h2) (fun g hg => no g (h1.ll g hg) (h4 g hg)) (fun g hg => no g (h1.lo hA g hg) (h3 g hg)), hown r h1.lr h2, fun g hg => hown g (h1.lo hA g hg) (h3 g hg), fun g hg => hown g (h1.ll g hg) (h4 g hg)⟩
theorem RW.keeps {w w' : World} {own own' : Own} {tg : Tag} {r : Nat} {A : Abs} (h : RW w own tg r A) (hA : AbsOk A) (hk : Keeps [] w w') (hown : ∀ b, b < w.heap.size → own b = tg → own' b = tg) : RW w' own' tg r A := by
  obtain ⟨ov, lv, h1, h2, h3, h4⟩ := h
  refine ⟨ov, lv, h1.keeps hk (by simp) (by simp) (by simp), hown r h1.lr h2, fun g hg => hown g (h1.lo hA g hg) (h3 g hg), fun g hg => hown g (h1.ll g hg) (h4 g hg)⟩

/-- what the document's store makes of it -/
def MadeR (w : World) (own : Own) (tg : Tag) (r : Nat) (A : Abs) (m : Int ⊕ Fun) (e : Ending) (w' : World) : Prop :=
  e = .returned (.tuple #[.int .i64 (madeOf A m).1, .int .i64 (madeOf A m).2.1]) ∧ RW w' (newOwn own w tg) tg r (madeOf A m).2.2 ∧ Only own tg w w'
theorem MadeR.no {w w' : World} {own : Own} {tg : Tag} {r : Nat} {A : Abs} {x : Int} {e : Ending} (hA : AbsOk A) (h : RW w own tg r A) (he : e = .returned (.tuple #[.int .i64 0, .int .i64 x])) (hk : Keeps [] w w') : MadeR w own tg r A (.inl x) e w' :=
  ⟨he, h.keeps hA hk (fun b hb e => newOwn_stays hb e), Only.nil hk⟩
theorem MadeR.yes {w w' : World} {own : Own} {tg : Tag} {r : Nat} {A : Abs} {ov lv : Value} {F : Fun} {e : Ending} (hA : AbsOk A) (h1 : RS w r A ov lv) (h2 : own r = tg) (h3 : ∀ g, ov.ownBlock = some g → own g = tg) (h4 : ∀ g, lv.ownBlock = some g → own g = tg) (hh : ∃ x y, e = .returned (.tuple #[.int .i64 x, .int .i64 y]) ∧ RMade w r A ov lv F x y w') : MadeR w own tg r A (.inr F) e w' := by
  obtain ⟨x, y, rfl, rfl, rfl, lv', q1, q2, q3⟩ := hh
  refine ⟨rfl, ⟨ov, lv', q1, newOwn_same h2, fun g hg => newOwn_same (h3 g hg), fun g hg => ?_⟩, Only.of q2 (fun b hb => ?_)⟩
  · rcases q3 with e | ⟨g', e, hg'⟩
    · exact newOwn_same (h4 g (by rw [← e]; exact hg))
    · have : g = g' := by rw [hg] at e; simpa using e
      subst this
      exact newOwn_new hg'
  · simp only [List.mem_cons, Option.mem_toList] at hb
    rcases hb with rfl | hb
    · exact h2
    · exact h4 b hb

section
variable {w : World} {own : Own} {tg : Tag} {r : Nat} {A : Abs}

/-- what must be known of a function that is made: the program's answer has shown it -/
def Known1 (A : Abs) (m : Int ⊕ Fun) : Prop := ∀ F, m = .inr F → A.fs.length < 60 → ∃ sz, Cnts A.n A.o (Vof (A.add F).fs) sz

theorem rs_constant (hA : AbsOk A) (h : RW w own tg r A) (hla : A.la < 4611686018427387904) (a b c : Int) (hc : Known1 A (mk A 2 a b c)) :
    Calls Tryz.prog 32 #[.pointer (some ⟨r, 0, none⟩), .bool (a.tmod 2 != 0)] w (MadeR w own tg r A (mk A 2 a b c)) := by
  obtain ⟨ov, lv, h1, h2, h3, h4⟩ := h
  have h1' := h1
  obtain ⟨o, _, hR⟩ := h1'
  exact (rconstant_any hA.n8 hR.c0 _ (rhold_by h1 hA _ (hc _ rfl) hla)).mono (fun e w' hh => MadeR.yes hA h1 h2 h3 h4 hh)
theorem rs_variable (hA : AbsOk A) (h : RW w own tg r A) (hla : A.la < 4611686018427387904) (a b c : Int) (hc : Known1 A (mk A 3 a b c)) :
    Calls Tryz.prog 33 #[.pointer (some ⟨r, 0, none⟩), .int .i64 a] w (MadeR w own tg r A (mk A 3 a b c)) := by
  have h0 := h
  obtain ⟨ov, lv, h1, h2, h3, h4⟩ := h
  have h1' := h1
  obtain ⟨o, _, hR⟩ := h1'
  by_cases hv : 0 ≤ a ∧ a < (A.n : Int)
  · have e : mk A 3 a b c = .inr (fun x => x a) := by simp [mk, hv]
    rw [e] at hc ⊢
    obtain ⟨v, rfl⟩ := Int.eq_ofNat_of_zero_le hv.1
    exact (rvariable_any hA.n8 hR.c0 (by omega) (rhold_by h1 hA _ (hc _ rfl) hla)).mono (fun e w' hh => MadeR.yes hA h1 h2 h3 h4 hh)
  · have e : mk A 3 a b c = .inl 3 := by simp [mk, hv]
    rw [e]
    exact (rvariable_no hR.c0 (by omega)).mono (fun e w' hh => MadeR.no hA h0 hh.1 (hh.2 ▸ Keeps.refl _ _))
theorem rs_not (hA : AbsOk A) (h : RW w own tg r A) (hla : A.la < 4611686018427387904) (a b c : Int) (hc : Known1 A (mk A 4 a b c)) :
    Calls Tryz.prog 34 #[.pointer (some ⟨r, 0, none⟩), .int .i64 a] w (MadeR w own tg r A (mk A 4 a b c)) := by
  have h0 := h
  obtain ⟨ov, lv, h1, h2, h3, h4⟩ := h
  have h1' := h1
  obtain ⟨o, _, hR⟩ := h1'
  have hl : (hsOf A.n A.fs).length ≤ 60 := by rw [hsOf_length]; exact hA.len
  cases hf : Vof A.fs a with
  | some F =>
    have e : mk A 4 a b c = .inr (fun x => !F x) := by simp [mk, hf]
    rw [e] at hc ⊢
    exact (rnot_any hA.n8 hR.c0 hR.held hl (hsOf_some hf) rfl (rhold_by h1 hA _ (hc _ rfl) hla)).mono (fun e w' hh => MadeR.yes hA h1 h2 h3 h4 hh)
  | none =>
    have e : mk A 4 a b c = .inl 2 := by simp [mk, hf]
    rw [e]
    exact (rnot_no hR.held hl (by rw [hsOf_in, hf]; rfl)).mono (fun e w' hh => MadeR.no hA h0 hh.1 (hh.2 ▸ Keeps.refl _ _))
theorem rs_apply (hA : AbsOk A) (h : RW w own tg r A) (hla : A.la < 4611686018427387904) (a b c : Int) (hc : Known1 A (mk A 5 a b c)) :
    Calls Tryz.prog 35 #[.pointer (some ⟨r, 0, none⟩), .int .i64 a, .int .i64 b, .int .i64 c] w (MadeR w own tg r A (mk A 5 a b c)) := by
  have h0 := h
  obtain ⟨ov, lv, h1, h2, h3, h4⟩ := h
  have h1' := h1
  obtain ⟨o, _, hR⟩ := h1'
  have hl : (hsOf A.n A.fs).length ≤ 60 := by rw [hsOf_length]; exact hA.len
  cases hf : Vof A.fs b with
  | none =>
    have e : mk A 5 a b c = .inl 2 := by simp [mk, hf]
    rw [e]
    exact (rapply_no hR.held hl (by rw [hsOf_in, hf]; rfl)).mono (fun e w' hh => MadeR.no hA h0 hh.1 (hh.2 ▸ Keeps.refl _ _))
  | some F =>
    cases hf2 : Vof A.fs c with
    | none =>
      have e : mk A 5 a b c = .inl 2 := by simp [mk, hf, hf2]
      rw [e]
      exact (rapply_no hR.held hl (by rw [hsOf_in, hsOf_in, hf, hf2]; rfl)).mono (fun e w' hh => MadeR.no hA h0 hh.1 (hh.2 ▸ Keeps.refl _ _))
    | some G =>
      by_cases hv : 0 ≤ a ∧ a ≤ 3
      · have e : mk A 5 a b c = .inr (fun x => app a (F x) (G x)) := by simp [mk, hf, hf2, hv]
        rw [e] at hc ⊢
        exact (rapply_any hA.n8 hR.c0 hR.held hl hv.1 hv.2 (hsOf_hasT hf) (hsOf_hasT hf2) (rhold_by h1 hA _ (hc _ rfl) hla)).mono (fun e w' hh => MadeR.yes hA h1 h2 h3 h4 hh)
      · have e : mk A 5 a b c = .inl 1 := by simp [mk, hf, hf2, hv]
        rw [e]
        exact (rapply_range hR.held hl (by rw [hsOf_in, hsOf_in, hf, hf2]; rfl) (by omega)).mono (fun e w' hh => MadeR.no hA h0 hh.1 (hh.2 ▸ Keeps.refl _ _))
theorem rs_choose (hA : AbsOk A) (h : RW w own tg r A) (hla : A.la < 4611686018427387904) (a b c : Int) (hc : Known1 A (mk A 6 a b c)) :
    Calls Tryz.prog 36 #[.pointer (some ⟨r, 0, none⟩), .int .i64 a, .int .i64 b, .int .i64 c] w (MadeR w own tg r A (mk A 6 a b c)) := by
  have h0 := h
  obtain ⟨ov, lv, h1, h2, h3, h4⟩ := h
  have h1' := h1
  obtain ⟨o, _, hR⟩ := h1'
  have hl : (hsOf A.n A.fs).length ≤ 60 := by rw [hsOf_length]; exact hA.len
  have no : ((Vof A.fs a).isSome && (Vof A.fs b).isSome && (Vof A.fs c).isSome) = false → Calls Tryz.prog 36 #[.pointer (some ⟨r, 0, none⟩), .int .i64 a, .int .i64 b, .int .i64 c] w (MadeR w own tg r A (mk A 6 a b c)) := by
    intro hno
    have e : mk A 6 a b c = .inl 2 := by
      unfold mk
      rw [if_neg (by omega), if_neg (by omega), if_neg (by omega), if_neg (by omega)]
      split
      · rename_i q1 q2 q3
        rw [q1, q2, q3] at hno
        simp at hno
      · rfl
    rw [e]
    exact (rchoose_no hR.held hl (by rw [hsOf_in, hsOf_in, hsOf_in]; exact hno)).mono (fun e w' hh => MadeR.no hA h0 hh.1 (hh.2 ▸ Keeps.refl _ _))
  cases hf : Vof A.fs a with
  | none => exact no (by rw [hf]; rfl)
  | some F =>
    cases hf2 : Vof A.fs b with
    | none => exact no (by rw [hf, hf2]; rfl)
    | some G =>
      cases hf3 : Vof A.fs c with
      | none => exact no (by rw [hf, hf2, hf3]; rfl)
      | some K =>
        have e : mk A 6 a b c = .inr (fun x => if F x then G x else K x) := by simp [mk, hf, hf2, hf3]
        rw [e] at hc ⊢
        exact (rchoose_any hA.n8 hR.c0 hR.held hl (hsOf_hasT hf) (hsOf_hasT hf2) (hsOf_hasT hf3) (rhold_by h1 hA _ (hc _ rfl) hla)).mono (fun e w' hh => MadeR.yes hA h1 h2 h3 h4 hh)

theorem rs_release (hA : AbsOk A) (h : RW w own tg r A) (f : Int) :
    Calls Tryz.prog 17 #[.pointer (some ⟨r, 0, none⟩), .int .i64 f] w fun e w' => e = .returned (.int .i64 (relOf A f).1) ∧ RW w' (newOwn own w tg) tg r (relOf A f).2 ∧ Only own tg w w' := by
  have h0 := h
  obtain ⟨ov, lv, h1, h2, h3, h4⟩ := h
  have h1' := h1
  obtain ⟨o, ho, hR⟩ := h1'
  have hl : (hsOf A.n A.fs).length ≤ 60 := by rw [hsOf_length]; exact hA.len
  cases hv : Vof A.fs f with
  | none =>
    have e : relOf A f = (2, A) := by simp [relOf, hv]
    rw [e]
    refine (rrelease_no hR.held hl (by rw [hsOf_in, hv]; rfl)).mono ?_
    rintro e w' ⟨rfl, rfl⟩
    exact ⟨rfl, h0.keeps hA (Keeps.refl _ _) (fun b hb e => newOwn_stays hb e), Only.nil (Keeps.refl _ _)⟩
  | some F =>
    have e : relOf A f = (0, A.del f) := by simp [relOf, hv]
    rw [e]
    refine (rrelease_any hR.held hl (hR.fr 4) (by rw [hsOf_in, hv]; rfl)).mono ?_
    rintro e w' ⟨rfl, v, w1, hown, hk, rfl⟩
    rw [hsOf_left] at hown
    have hR1 := hR.keeps hk (by simp) (by simp) (by simp)
    have hlr : r < w.heap.size := h1.lr
    obtain ⟨ob, cap, e1, q1, q2, q3⟩ := hR1.ord
    have hvb : ∀ g, v.ownBlock = some g → w.heap.size ≤ g := fun g hg => (hown.lt g hg).1
    have hob : ob < w.heap.size := h1.lo hA ob (by rw [e1]; rfl)
    have oth : ∀ j u, j ≠ 4 → w1.cell? ⟨r, j, none⟩ = some u → (w1.setCell ⟨r, 4, none⟩ v).cell? ⟨r, j, none⟩ = some u := fun j u hj hc => by
      rw [World.cell?_setCell_other _ _ _ _ (by intro e; injection e; omega)]
      exact hc
    have hks : Keeps [r] w (w1.setCell ⟨r, 4, none⟩ v) := (hk.mono (by simp)).setCell _ (Or.inl (by simp)) _
    refine ⟨rfl, ⟨ov, v, ⟨o, ho, ⟨oth 0 _ (by omega) hR1.c0, oth 1 _ (by omega) hR1.c1, oth 2 _ (by omega) hR1.c2, oth 3 _ (by omega) hR1.c3, fun j => by rw [World.frozen?_setCell]; exact hR1.fr j, ⟨World.cell?_setCell_same _ _ _ hR1.held.c4, ?_⟩, ⟨ob, cap, e1, q1, fun e => by have := hvb ob e; omega, fun k hk' => ?_⟩, fun e => by have := hvb r e; omega⟩⟩, newOwn_same h2, fun g hg => newOwn_same (h3 g hg), fun g hg => newOwn_new (hvb g hg)⟩, Only.of hks (fun b hb => by simp at hb; rw [hb]; exact h2)⟩
    · rw [hsOf_length] at hown
      rw [hsOf_length]
      exact ownsRow_setCell_other (row_mono hown (Nat.zero_le _)) (fun e => by have := hvb r e; omega) _
    · rw [World.cell?_setCell_far _ _ _ _ (by simpa using Ne.symm q1)]
      exact q3 k hk'
end

end Go.Proofs.YtmgjegokkbghlaaGreat

namespace Go.Proofs.YtmgjegokkbghlaaGreat
open Go.RowKit Go.Maps Bdd
set_option linter.unusedVariables false

/-! ### how often a function is true -/
theorem asgN_pow (n k i u b : Nat) (hk : k + 1 + u < n + 1) (hb : b < 2) : asgN n (2 ^ k * (2 * i + b)) (u : Int) = if u + k + 1 = n then decide (b = 1) else asgN n (2 ^ (k + 1) * i) (u : Int) := by
  unfold asgN
  rw [Int.toNat_natCast]
  have h1 := Nat.testBit_two_pow_mul_add (2 * i + b) (b := 0) (i := k) (Nat.pow_pos (by omega)) (n - 1 - u)
  have h2 := Nat.testBit_two_pow_mul_add i (b := 0) (i := k + 1) (Nat.pow_pos (by omega)) (n - 1 - u)
  rw [Nat.add_zero] at h1 h2
  rw [h1, h2, if_neg (by omega)]
  by_cases e : u + k + 1 = n
  · rw [if_pos e]
    have : n - 1 - u - k = 0 := by omega
    rw [this, Nat.testBit_zero]
    have : (2 * i + b) % 2 = b := by omega
    rw [this]
  · rw [if_neg e, if_neg (by omega)]
    have e1 : n - 1 - u - k = (n - 1 - u - (k + 1)) + 1 := by omega
    rw [e1, Nat.testBit_succ]
    congr 1
    omega
theorem cnt_range {n : Nat} {F : Fun} (hdep : ∀ a b, (∀ i, 0 ≤ i → i < (n : Int) → a i = b i) → F a = F b) : ∀ (k l i : Nat) (a : Int → Bool), l + k = n → (∀ u : Nat, u < l → a (u : Int) = asgN n (2 ^ k * i) (u : Int)) → cnt F k (l : Int) a = ((List.range (2 ^ k)).filter fun j => F (asgN n (2 ^ k * i + j))).length
  | 0, l, i, a, hl, ha => by
    have e : F a = F (asgN n (2 ^ 0 * i)) := hdep _ _ (fun u h0 h1 => by
      obtain ⟨v, rfl⟩ := Int.eq_ofNat_of_zero_le h0
      exact ha v (by omega))
    have e2 : List.range (2 ^ 0) = [0] := by decide
    rw [cnt, e, e2]
    simp only [Nat.pow_zero, Nat.one_mul, List.filter_cons, List.filter_nil, Nat.add_zero]
    cases F (asgN n i) <;> rfl
  | k + 1, l, i, a, hl, ha => by
    have step : ∀ b : Nat, b < 2 → cnt F k ((l : Int) + 1) (setAt a l (decide (b = 1))) = ((List.range (2 ^ k)).filter fun j => F (asgN n (2 ^ k * (2 * i + b) + j))).length := by
      intro b hb
      have := cnt_range hdep k (l + 1) (2 * i + b) (setAt a l (decide (b = 1))) (by omega) (fun u hu => by
        rw [asgN_pow n k i u b (by omega) hb]
        unfold setAt
        by_cases e : u = l
        · rw [if_pos (by omega), if_pos (by omega)]
        · rw [if_neg (by omega), if_neg (by omega)]
          exact ha u (by omega))
      rw [← this]
      congr 1
    rw [cnt]
    have h0 := step 0 (by omega)
    have h1 := step 1 (by omega)
    simp only [Nat.add_zero] at h0
    have d0 : decide ((0 : Nat) = 1) = false := by decide
    have d1 : decide ((1 : Nat) = 1) = true := by decide
    rw [d0] at h0
    rw [d1] at h1
    rw [h0, h1, Nat.pow_succ, Nat.mul_two, List.range_add, List.filter_append, List.length_append, List.filter_map, List.length_map]
    congr 2
    · congr 1
      funext j
      congr 2
      have h2 := Nat.mul_left_comm (2 ^ k) 2 i
      have h3 := Nat.add_mul (2 ^ k) (2 ^ k) i
      omega
    · congr 1
      funext j
      simp only [Function.comp]
      congr 2
      have h2 := Nat.mul_left_comm (2 ^ k) 2 i
      have h3 := Nat.add_mul (2 ^ k) (2 ^ k) i
      have h4 := Nat.mul_add (2 ^ k) (2 * i) 1
      omega
theorem cnt_trues {n : Nat} {F : Fun} (hdep : ∀ a b, (∀ i, 0 ≤ i → i < (n : Int) → a i = b i) → F a = F b) : cnt F n 0 (fun _ => false) = trues n F (2 ^ n) := by
  have := cnt_range hdep n 0 0 (fun _ => false) (by omega) (fun u hu => by omega)
  rw [show ((0 : Nat) : Int) = 0 from rfl] at this
  rw [this]
  unfold trues
  congr 2
  funext j
  rw [Nat.mul_zero, Nat.zero_add]

theorem txt_iff {n : Nat} {F G : Fun} (hF : ∀ a b, (∀ i, 0 ≤ i → i < (n : Int) → a i = b i) → F a = F b) (hG : ∀ a b, (∀ i, 0 ≤ i → i < (n : Int) → a i = b i) → G a = G b) : ((txt n F).toList == (txt n G).toList) = true ↔ ∀ a, F a = G a := by
  have e : ((txt n F).toList == (txt n G).toList) = true ↔ txt n F = txt n G := by
    rw [beq_iff_eq]
    constructor
    · intro h
      exact bytes_ext h
    · intro h; rw [h]
  rw [e]
  constructor
  · intro h a
    have h1 := txt_inj h (numOf a n) (numOf_lt a n)
    rw [hF a (asgN n (numOf a n)) (fun i h0 h1 => (asgN_num a n h0 h1).symm), hG a (asgN n (numOf a n)) (fun i h0 h1 => (asgN_num a n h0 h1).symm)]
    exact h1
  · intro h
    exact txt_congr (fun i _ => h _)

noncomputable def sameOf (A : Abs) (f g : Int) : Bool × Int := by
  classical
  exact match Vof A.fs f, Vof A.fs g with
  | some F, some G => (decide (∀ a, F a = G a), 0)
  | _, _ => (false, 2)
def valueOf (A : Abs) (f : Int) (v : List Bool) : Bool × Int := match Vof A.fs f with
  | none => (false, 2)
  | some F => if v.length = A.n then (F (fun i => v.getD i.toNat false), 0) else (false, 1)
def countOf (A : Abs) (f : Int) : Int × Int := match Vof A.fs f with
  | none => (0, 2)
  | some F => (((cnt F A.n 0 (fun _ => false) : Nat) : Int), 0)

section
variable {w : World} {own : Own} {tg : Tag} {s r : Nat} {A : Abs} {lb : Int}

theorem ps_same (h : PS w own tg s A lb) {f g : Int} (hf : Fits f) (hg : Fits g) :
    Calls Tryz.prog 48 #[.pointer (some ⟨s, 0, none⟩), .int .i64 f, .int .i64 g] w fun e w' => e = .returned (.tuple #[.bool (sameOf A f g).1, .int .i64 (sameOf A f g).2]) ∧ Keeps [] w w' := by
  classical
  obtain ⟨hb, t, bn, bm, od, sz, h1, h2, h3⟩ := h
  cases hF : Vof A.fs f with
  | none =>
    have e : sameOf A f g = (false, 2) := by simp [sameOf, hF]
    rw [e]
    exact same_bad h1 hf hg (Or.inl hF)
  | some F =>
    cases hG : Vof A.fs g with
    | none =>
      have e : sameOf A f g = (false, 2) := by simp [sameOf, hF, hG]
      rw [e]
      exact same_bad h1 hf hg (Or.inr hG)
    | some G =>
      have e : sameOf A f g = (decide (∀ a, F a = G a), 0) := by simp [sameOf, hF, hG]
      rw [e]
      refine (same_any h1 hF hG).mono ?_
      rintro e w' ⟨b, rfl, hb, hk⟩
      refine ⟨?_, hk⟩
      have : b = decide (∀ a, F a = G a) := by
        cases b with
        | true => exact (decide_eq_true (hb.1 rfl)).symm
        | false => exact (decide_eq_false (fun hh => by have := hb.2 hh; cases this)).symm
      rw [this]
theorem rs_same (hP : PS w own tg s A lb) {own' : Own} {tg' : Tag} {w' : World} (hA : AbsOk A) (h : RW w' own' tg' r A) (f g : Int) :
    Calls Tryz.prog 49 #[.pointer (some ⟨r, 0, none⟩), .int .i64 f, .int .i64 g] w' fun e w2 => e = .returned (.tuple #[.bool (sameOf A f g).1, .int .i64 (sameOf A f g).2]) ∧ w' = w2 := by
  classical
  obtain ⟨ov, lv, ⟨o, ho, hR⟩, h2, h3, h4⟩ := h
  have hl : (hsOf A.n A.fs).length ≤ 60 := by rw [hsOf_length]; exact hA.len
  refine (rsame_any hR.held hl f g).mono ?_
  rintro e w2 ⟨rfl, rfl⟩
  refine ⟨?_, rfl⟩
  cases hF : Vof A.fs f with
  | none =>
    have e : sameOf A f g = (false, 2) := by simp [sameOf, hF]
    rw [e]
    simp [sameV, hsOf_none hF]
  | some F =>
    cases hG : Vof A.fs g with
    | none =>
      have e : sameOf A f g = (false, 2) := by simp [sameOf, hF, hG]
      rw [e]
      simp [sameV, hsOf_none hG, hsOf_some hF]
    | some G =>
      have e : sameOf A f g = (decide (∀ a, F a = G a), 0) := by simp [sameOf, hF, hG]
      rw [e]
      simp only [sameV, hsOf_some hF, hsOf_some hG]
      have : ((txt A.n F).toList == (txt A.n G).toList) = decide (∀ a, F a = G a) := by
        have hi := txt_iff (hP.dep hF) (hP.dep hG)
        by_cases hh : ∀ a, F a = G a
        · rw [hi.2 hh, decide_eq_true hh]
        · rw [decide_eq_false hh]
          cases hc : ((txt A.n F).toList == (txt A.n G).toList) with
          | false => rfl
          | true => exact absurd (hi.1 hc) hh
      rw [this]

theorem ps_value (h : PS w own tg s A lb) {f : Int} (hf : Fits f) {vb cap : Nat} {v : List Bool} (hv : ∀ i, i < v.length → w.cell? ⟨vb, i, none⟩ = some (.bool (v.getD i false))) :
    Calls Tryz.prog 51 #[.pointer (some ⟨s, 0, none⟩), .int .i64 f, .slice (some ⟨vb, 0, none⟩) v.length cap] w fun e w' => e = .returned (.tuple #[.bool (valueOf A f v).1, .int .i64 (valueOf A f v).2]) ∧ Keeps [] w w' := by
  obtain ⟨hb, t, bn, bm, od, sz, h1, h2, h3⟩ := h
  cases hF : Vof A.fs f with
  | none =>
    have e : valueOf A f v = (false, 2) := by simp [valueOf, hF]
    rw [e]
    exact value_bad h1 hf hF
  | some F =>
    by_cases hl : v.length = A.n
    · have e : valueOf A f v = (F (fun i => v.getD i.toNat false), 0) := by simp [valueOf, hF, hl]
      rw [e, hl]
      exact valuec_any h1 hF (a := fun i => v.getD i.toNat false) (fun i hi => by simp only [Nat.zero_add, Int.toNat_natCast]; exact hv i (by omega))
    · have e : valueOf A f v = (false, 1) := by simp [valueOf, hF, hl]
      rw [e]
      exact value_range h1 hF hl
theorem rs_value (hP : PS w own tg s A lb) {own' : Own} {tg' : Tag} {w' : World} (hA : AbsOk A) (h : RW w' own' tg' r A) (f : Int) {p : Option Addr} {cap : Nat} {v : List Bool} (hv : v.length = 0 ∨ ∃ vb vo, p = some ⟨vb, vo, none⟩ ∧ ∀ i, i < v.length → w'.cell? ⟨vb, vo + i, none⟩ = some (.bool (v.getD i false))) :
    Calls Tryz.prog 54 #[.pointer (some ⟨r, 0, none⟩), .int .i64 f, .slice p v.length cap] w' fun e w2 => e = .returned (.tuple #[.bool (valueOf A f v).1, .int .i64 (valueOf A f v).2]) ∧ w' = w2 := by
  obtain ⟨ov, lv, ⟨o, ho, hR⟩, h2, h3, h4⟩ := h
  have hl : (hsOf A.n A.fs).length ≤ 60 := by rw [hsOf_length]; exact hA.len
  cases hF : Vof A.fs f with
  | none =>
    have e : valueOf A f v = (false, 2) := by simp [valueOf, hF]
    rw [e]
    exact rvalue_no hR.held hl (by rw [hsOf_in, hF]; rfl)
  | some F =>
    by_cases hl2 : v.length = A.n
    · have e : valueOf A f v = (F (fun i => v.getD i.toNat false), 0) := by simp [valueOf, hF, hl2]
      rw [e, hl2]
      rcases hv with hv | ⟨vb, vo, rfl, hv⟩
      · have := hA.n1; omega
      · have := rvalue_any (cap := cap) hA.n8 hR.c0 hR.held hl (hsOf_hasT hF) (a := fun i => v.getD i.toNat false) (vb := vb) (vo := vo) (fun i hi => by simp only [Int.toNat_natCast]; exact hv i (by omega))
        have e2 : F (asgN A.n (numOf (fun i => v.getD i.toNat false) A.n)) = F (fun i => v.getD i.toNat false) := hP.dep hF _ _ (fun i h0 h1 => asgN_num _ _ h0 h1)
        rw [e2] at this
        exact this
    · have e : valueOf A f v = (false, 1) := by simp [valueOf, hF, hl2]
      rw [e]
      exact rvalue_range hR.c0 hR.held hl (by rw [hsOf_in, hF]; rfl) hl2

theorem ps_count (h : PS w own tg s A lb) {f : Int} (hf : Fits f) :
    Calls Tryz.prog 55 #[.pointer (some ⟨s, 0, none⟩), .int .i64 f] w fun e w' => e = .returned (.tuple #[.int .i64 (countOf A f).1, .int .i64 (countOf A f).2]) ∧ Keeps [] w w' := by
  obtain ⟨hb, t, bn, bm, od, sz, h1, h2, h3⟩ := h
  cases hF : Vof A.fs f with
  | none =>
    have e : countOf A f = (0, 2) := by simp [countOf, hF]
    rw [e]
    exact count_bad h1 hf hF
  | some F =>
    have e : countOf A f = (((cnt F A.n 0 (fun _ => false) : Nat) : Int), 0) := by simp [countOf, hF]
    rw [e]
    exact countc_any h1 hF
theorem rs_count (hP : PS w own tg s A lb) {own' : Own} {tg' : Tag} {w' : World} (hA : AbsOk A) (h : RW w' own' tg' r A) (f : Int) :
    Calls Tryz.prog 56 #[.pointer (some ⟨r, 0, none⟩), .int .i64 f] w' fun e w2 => e = .returned (.tuple #[.int .i64 (countOf A f).1, .int .i64 (countOf A f).2]) ∧ w' = w2 := by
  obtain ⟨ov, lv, ⟨o, ho, hR⟩, h2, h3, h4⟩ := h
  have hl : (hsOf A.n A.fs).length ≤ 60 := by rw [hsOf_length]; exact hA.len
  cases hF : Vof A.fs f with
  | none =>
    have e : countOf A f = (0, 2) := by simp [countOf, hF]
    rw [e]
    exact rtrue_none hR.held hl (hsOf_none hF)
  | some F =>
    have e : countOf A f = (((cnt F A.n 0 (fun _ => false) : Nat) : Int), 0) := by simp [countOf, hF]
    rw [e, cnt_trues (hP.dep hF)]
    exact rtrue_some hA.n8 hR.held hl (hsOf_some hF) rfl

set_option maxRecDepth 100000 in
theorem ps_nodes (h : PS w own tg s A lb) :
    Calls Tryz.prog 57 #[.pointer (some ⟨s, 0, none⟩)] w fun e w' => e = .returned (.int .i64 (cntOf A.n A.o (Vof A.fs) : Int)) ∧ Keeps [] w w' := by
  obtain ⟨hb, t, bn, bm, od, sz, h1, h2, h3⟩ := h
  rw [cntOf_eq (h1.cnts.congr h2)]
  obtain ⟨N, last, H, hst, _⟩ := h1
  have c4 := hst.c4
  go_enter Tryz.func57, Tryz.ntmps57
  go_wp2_with fail
  refine (len_any hst.tab).mono ?_
  rintro e w1 ⟨rfl, rfl⟩
  go_wp2_with fail
  go_ret
  exact ⟨rfl, Keeps.refl _ _⟩
theorem rs_nodes (hP : PS w own tg s A lb) {own' : Own} {tg' : Tag} {w' : World} (hA : AbsOk A) (h : RW w' own' tg' r A) :
    Calls Tryz.prog 58 #[.pointer (some ⟨r, 0, none⟩)] w' fun e w2 => e = .returned (.int .i64 (cntOf A.n A.o (Vof A.fs) : Int)) ∧ Keeps [] w' w2 := by
  obtain ⟨ov, lv, ⟨o, ho, hR⟩, h2, h3, h4⟩ := h
  obtain ⟨sz, hsz⟩ := hP.cnts
  obtain ⟨N, last, od, g, hw, hg, hcount, hod⟩ := hsz.names hA.nd (by have := hA.len; omega)
  have e1 : hT N od (A.fs.map fun p => (p.1, g p.1)) = hsOf A.n A.fs := by
    unfold hT hsOf T
    rw [List.map_map]
    refine List.map_congr_left (fun p hp => ?_)
    simp only [Function.comp]
    rw [(hg p hp).2]
  have hR' := hR.order (o' := od) (fun k k0 k1 => (ho k k0 k1).trans (hod k k0 k1).symm)
  rw [← e1] at hR'
  have := rnodes_any hw hA.n8 hR' (fun p hp => by
    obtain ⟨q, hq, rfl⟩ := List.mem_map.1 hp
    exact (hg q hq).1) (by simp; exact hA.len)
  have e2 : (A.fs.map fun p => (p.1, g p.1)).map (·.2) = A.fs.map fun p => g p.1 := by rw [List.map_map]; rfl
  rw [e2, ← hcount, ← cntOf_eq hsz] at this
  exact this

/-- a new store -/
def Abs.new (n : Nat) (l : Int) : Abs := ⟨n, l, 0, fun k => k, []⟩
theorem AbsOk.fresh {n : Nat} (h1 : 1 ≤ n) (h8 : n ≤ 8) (l : Int) : AbsOk (Abs.new n l) := ⟨h1, h8, by simp [Abs.new], fun p hp => by simp [Abs.new] at hp, by simp [Abs.new], by simp [Abs.new]⟩
theorem ps_new {n : Nat} {l : Int} (h1 : 1 ≤ n) (h2 : n ≤ 8) (h3 : 0 ≤ l) (h4 : l ≤ 2000) (own : Own) (tg : Tag) :
    Calls Tryz.prog 11 #[.int .i64 n, .int .i64 l] w fun e w' => ∃ s, e = .returned (.tuple #[.pointer (some ⟨s, 0, none⟩), .int .i64 0]) ∧ PS w' (newOwn own w tg) tg s (Abs.new n l) 1 ∧ Keeps [] w w' := by
  refine (new_good h1 h2 h3 h4).mono ?_
  rintro e w' ⟨s, hb, t, bn, bm, ob, cap, rfl, hS, hk, q1, q2, q3, q4, q5, q6⟩
  refine ⟨s, rfl, ⟨hb, t, bn, bm, Ord.first n ob cap, 0, hS, fun k _ _ => rfl, fun b hb' => newOwn_new ?_⟩, hk⟩
  simp [Ord.first] at hb'
  omega
theorem rs_new {n : Nat} {l : Int} (h1 : 1 ≤ n) (h2 : n ≤ 8) (h3 : 0 ≤ l) (h4 : l ≤ 2000) (own : Own) (tg : Tag) :
    Calls Tryz.prog 12 #[.int .i64 n, .int .i64 l] w fun e w' => ∃ r, e = .returned (.tuple #[.pointer (some ⟨r, 0, none⟩), .int .i64 0]) ∧ RW w' (newOwn own w tg) tg r (Abs.new n l) ∧ Keeps [] w w' := by
  refine (rnew_good h1 h2 h3 h4).mono ?_
  rintro e w' ⟨rfl, ov, hR, ho, hk⟩
  exact ⟨_, rfl, ⟨ov, _, ⟨Ord.first n, fun k _ _ => rfl, hR⟩, newOwn_new (Nat.le_refl _), fun g hg => newOwn_new (ho g hg), fun g hg => by cases hg⟩, hk⟩
end

end Go.Proofs.YtmgjegokkbghlaaGreat
