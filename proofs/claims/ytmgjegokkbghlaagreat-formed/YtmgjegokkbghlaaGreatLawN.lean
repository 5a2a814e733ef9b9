/- The other calls that make a function: Restrict, Exists, Swap. -/
import Derived.Test.YtmgjegokkbghlaaGreatLawG
import Derived.Test.YtmgjegokkbghlaaGreatLawM
import Derived.Test.YtmgjegokkbghlaaGreatPairF
namespace Go.Proofs.YtmgjegokkbghlaaGreat
open Go.RowKit Go.Maps Bdd
set_option linter.unusedVariables false
attribute [local go_sem ↓] Go.wp_at_zero Go.wp_at_succ

/-- what a call makes of a store, and of the law's world -/
def MadeW (Q : Nat → Prop) (w0 w : World) (own : Own) (W : Nat) (ps : List Pr) (K : Nat) (tg : Tag) (s : Nat) (A : Abs) (lb : Int) (m : Int ⊕ Fun) (e : Ending) (w' : World) : Prop :=
  e = .returned (.tuple #[.int .i64 (madeOf A m).1, .int .i64 (madeOf A m).2.1]) ∧ Known1 A m ∧ ∃ own' hs', WX Q w0 w' own' W ps hs' (K + 1) ∧ PS w' own' tg s (madeOf A m).2.2 (lb + 100000) ∧ Onlys own (fun y => y = (0, 0) ∨ y = (1, 0) ∨ y = tg) w w' ∧ (∀ b t, b < w.heap.size → t ≠ (0, 0) → own b = t → own' b = t) ∧ Free own w w'
theorem MadeP.world {w0 w w' : World} {own : Own} {W K i s : Nat} {ps : List Pr} {hs : List Nat} {tg : Tag} {A : Abs} {lb : Int} {m : Int ⊕ Fun} {e : Ending} (hW : WX (fun j => j ≠ i) w0 w own W ps hs K) (htg : tg = (2, i) ∨ tg = (3, i)) (h : MadeP w own tg s A lb m e w') : MadeW (fun j => j ≠ i) w0 w own W ps K tg s A lb m e w' := by
  obtain ⟨h1, h2, h3, h4⟩ := h
  refine ⟨h1, h2, newOwn own w tg, hs, (hW.frame h4 ?_ ?_ ?_ ?_ ?_ ?_ (fun b t hb _ e => newOwn_stays hb e) hW.low.size).wider (Nat.le_succ K), h3, ?_, fun b t hb _ e => newOwn_stays hb e, fun p u h0 hc => h4.cell hc ?_⟩
  · rcases htg with e | e <;> rw [e] <;> simp
  · rcases htg with e | e <;> rw [e] <;> simp
  · intro j hj; rcases htg with e | e <;> rw [e] <;> simp; exact hj
  · intro j hj; rcases htg with e | e <;> rw [e] <;> simp; exact hj
  · intro j hj; rcases htg with e | e <;> rw [e] <;> simp
  · intro j; rcases htg with e | e <;> rw [e] <;> simp
  · obtain ⟨S, g1, g2⟩ := h4
    exact ⟨S, g1, fun b hb => (g2 b hb).imp (fun e => Or.inr (Or.inr e)) id⟩
  · rw [h0]; rcases htg with e | e <;> rw [e] <;> simp

section
variable {w : World} {own : Own} {tg : Tag} {s W : Nat} {A : Abs} {lb : Int}
set_option maxRecDepth 100000 in
set_option maxHeartbeats 1000000 in
theorem makes12 (hA : AbsOk A) (h : PS w own tg s A lb) (hg : A.la + 1 ≤ 4611686018427387904) (hlb : lb + 100000 ≤ 4611686018427387904) {m a b c : Int} {l v : Value} (ls : List Int) (ha : Fits a) (hb : Fits b) (hc : Fits c) :
    Calls Tryz.prog 14 #[ptr W, ptr s, opV 12 m a b c l v] w (MadeP w own tg s A lb (mkF A 12 a b c ls)) := by
  obtain ⟨wb, hwb⟩ : ∃ wb, wb = w.alloc (.cells (opC 12 m a b c l v) 34) := ⟨_, rfl⟩
  have hkb : Keeps [] w wb := by rw [hwb]; exact (Keeps.refl _ _).alloc _
  have H : Hid (Calls Tryz.prog 27 #[.pointer (some ⟨s, 0, none⟩), .int .i64 a, .int .i64 b, .bool (c.tmod 2 != 0)] wb (MadeP wb own tg s A lb (mkF A 12 a b c ls))) := ps_restrict hA (h.keeps hkb (own' := own) (fun _ _ e => e)) hg hlb ha b c ls
  clear hA h hg hlb
  unfold Fits at ha hb hc
  show Calls Tryz.prog 14 #[.pointer (some ⟨W, 0, none⟩), .pointer (some ⟨s, 0, none⟩), .agg #[.int .i64 12, .int .i64 m, .int .i64 a, .int .i64 b, .int .i64 c, l, v]] w _
  unfold opC at hwb
  go_enter Tryz.func14, Tryz.ntmps14
  go_wp2_with fail
  rw [← hwb]
  clear hwb
  refine H.out.mono ?_
  intro e w' hh
  have hm : Hid (MadeP w own tg s A lb (mkF A 12 a b c ls) e w') := hh.from hkb
  have he := hh.1
  clear hh
  obtain ⟨x, hx⟩ : ∃ x, x = (madeOf A (mkF A 12 a b c ls)).1 := ⟨_, rfl⟩
  obtain ⟨y, hy⟩ : ∃ y, y = (madeOf A (mkF A 12 a b c ls)).2.1 := ⟨_, rfl⟩
  rw [← hx, ← hy] at he
  clear hx hy
  subst he
  go_wp2_with fail
  go_ret2
  exact hm.out

set_option maxRecDepth 100000 in
set_option maxHeartbeats 1000000 in
theorem made12 (hA : AbsOk A) (h : RW w own tg s A) (hD : Dep A) (hla : A.la < 4611686018427387904) {m a b c : Int} {l v : Value} (ls : List Int) (ha : Fits a) (hcf : Fits c) (hc : Known1 A (mkF A 12 a b c ls)) :
    Calls Tryz.prog 15 #[ptr s, opV 12 m a b c l v] w (MadeR w own tg s A (mkF A 12 a b c ls)) := by
  obtain ⟨wb, hwb⟩ : ∃ wb, wb = w.alloc (.cells (opC 12 m a b c l v) 34) := ⟨_, rfl⟩
  have hkb : Keeps [] w wb := by rw [hwb]; exact (Keeps.refl _ _).alloc _
  have H : Hid (Calls Tryz.prog 37 #[.pointer (some ⟨s, 0, none⟩), .int .i64 a, .int .i64 b, .bool (c.tmod 2 != 0)] wb (MadeR wb own tg s A (mkF A 12 a b c ls))) := rs_restrict hA (h.keeps hA hkb (own' := own) (fun _ _ e => e)) hD hla a b c ls hc
  have HA : Hid (AbsOk A) := hA
  clear hA h hla hc hD
  unfold Fits at ha hcf
  show Calls Tryz.prog 15 #[.pointer (some ⟨s, 0, none⟩), .agg #[.int .i64 12, .int .i64 m, .int .i64 a, .int .i64 b, .int .i64 c, l, v]] w _
  unfold opC at hwb
  go_enter Tryz.func15, Tryz.ntmps15
  go_wp2_with fail
  rw [← hwb]
  clear hwb
  refine H.out.mono ?_
  intro e w' hh
  have hm : Hid (MadeR w own tg s A (mkF A 12 a b c ls) e w') := hh.from HA.out hkb
  have he := hh.1
  clear hh
  obtain ⟨x, hx⟩ : ∃ x, x = (madeOf A (mkF A 12 a b c ls)).1 := ⟨_, rfl⟩
  obtain ⟨y, hy⟩ : ∃ y, y = (madeOf A (mkF A 12 a b c ls)).2.1 := ⟨_, rfl⟩
  rw [← hx, ← hy] at he
  clear hx hy
  subst he
  go_wp2_with fail
  go_ret2
  exact hm.out

set_option maxRecDepth 100000 in
set_option maxHeartbeats 1000000 in
theorem makes14 (hA : AbsOk A) (h : PS w own tg s A lb) (hg : A.la + 1 ≤ 4611686018427387904) (hlb : lb + 100000 ≤ 4611686018427387904) {m a b c : Int} {l v : Value} (ls : List Int) (ha : Fits a) (hb : Fits b) (hc : Fits c) :
    Calls Tryz.prog 14 #[ptr W, ptr s, opV 14 m a b c l v] w (MadeP w own tg s A lb (mkF A 14 a b c ls)) := by
  obtain ⟨wb, hwb⟩ : ∃ wb, wb = w.alloc (.cells (opC 14 m a b c l v) 34) := ⟨_, rfl⟩
  have hkb : Keeps [] w wb := by rw [hwb]; exact (Keeps.refl _ _).alloc _
  have H : Hid (Calls Tryz.prog 31 #[.pointer (some ⟨s, 0, none⟩), .int .i64 a, .int .i64 b, .int .i64 c] wb (MadeP wb own tg s A lb (mkF A 14 a b c ls))) := ps_swap hA (h.keeps hkb (own' := own) (fun _ _ e => e)) hg hlb ha b c ls
  clear hA h hg hlb
  unfold Fits at ha hb hc
  show Calls Tryz.prog 14 #[.pointer (some ⟨W, 0, none⟩), .pointer (some ⟨s, 0, none⟩), .agg #[.int .i64 14, .int .i64 m, .int .i64 a, .int .i64 b, .int .i64 c, l, v]] w _
  unfold opC at hwb
  go_enter Tryz.func14, Tryz.ntmps14
  go_wp2_with fail
  rw [← hwb]
  clear hwb
  refine H.out.mono ?_
  intro e w' hh
  have hm : Hid (MadeP w own tg s A lb (mkF A 14 a b c ls) e w') := hh.from hkb
  have he := hh.1
  clear hh
  obtain ⟨x, hx⟩ : ∃ x, x = (madeOf A (mkF A 14 a b c ls)).1 := ⟨_, rfl⟩
  obtain ⟨y, hy⟩ : ∃ y, y = (madeOf A (mkF A 14 a b c ls)).2.1 := ⟨_, rfl⟩
  rw [← hx, ← hy] at he
  clear hx hy
  subst he
  go_wp2_with fail
  go_ret2
  exact hm.out

set_option maxRecDepth 100000 in
set_option maxHeartbeats 1000000 in
theorem made14 (hA : AbsOk A) (h : RW w own tg s A) (hD : Dep A) (hla : A.la < 4611686018427387904) {m a b c : Int} {l v : Value} (ls : List Int) (ha : Fits a) (hcf : Fits c) (hc : Known1 A (mkF A 14 a b c ls)) :
    Calls Tryz.prog 15 #[ptr s, opV 14 m a b c l v] w (MadeR w own tg s A (mkF A 14 a b c ls)) := by
  obtain ⟨wb, hwb⟩ : ∃ wb, wb = w.alloc (.cells (opC 14 m a b c l v) 34) := ⟨_, rfl⟩
  have hkb : Keeps [] w wb := by rw [hwb]; exact (Keeps.refl _ _).alloc _
  have H : Hid (Calls Tryz.prog 39 #[.pointer (some ⟨s, 0, none⟩), .int .i64 a, .int .i64 b, .int .i64 c] wb (MadeR wb own tg s A (mkF A 14 a b c ls))) := rs_swap hA (h.keeps hA hkb (own' := own) (fun _ _ e => e)) hD hla a b c ls hc
  have HA : Hid (AbsOk A) := hA
  clear hA h hla hc hD
  unfold Fits at ha hcf
  show Calls Tryz.prog 15 #[.pointer (some ⟨s, 0, none⟩), .agg #[.int .i64 14, .int .i64 m, .int .i64 a, .int .i64 b, .int .i64 c, l, v]] w _
  unfold opC at hwb
  go_enter Tryz.func15, Tryz.ntmps15
  go_wp2_with fail
  rw [← hwb]
  clear hwb
  refine H.out.mono ?_
  intro e w' hh
  have hm : Hid (MadeR w own tg s A (mkF A 14 a b c ls) e w') := hh.from HA.out hkb
  have he := hh.1
  clear hh
  obtain ⟨x, hx⟩ : ∃ x, x = (madeOf A (mkF A 14 a b c ls)).1 := ⟨_, rfl⟩
  obtain ⟨y, hy⟩ : ∃ y, y = (madeOf A (mkF A 14 a b c ls)).2.1 := ⟨_, rfl⟩
  rw [← hx, ← hy] at he
  clear hx hy
  subst he
  go_wp2_with fail
  go_ret2
  exact hm.out

theorem listI {n : Nat} {f : Nat → Int} {i : Nat} (hi : i < n) : ((List.range n).map f).getD i 0 = f i := by simp [hi]
theorem listI_len (n : Nat) (f : Nat → Int) : ((List.range n).map f).length = n := by simp
theorem IntsAt.list {w : World} {va : Option Addr} {n : Nat} {g : Nat → Int} (h : IntsAt w va n g) : IntsAt w va n (fun i => ((List.range n).map g).getD i 0) := by
  rcases h with h | ⟨vb, vo, e, hc⟩
  · exact Or.inl h
  · exact Or.inr ⟨vb, vo, e, fun i hi => by simp only [listI hi]; exact hc i hi⟩

set_option maxRecDepth 100000 in
set_option maxHeartbeats 1000000 in
theorem made13 (hA : AbsOk A) (h : RW w own tg s A) (hD : Dep A) (hla : A.la < 4611686018427387904) {m a b c : Int} {va : Option Addr} {ln lc : Nat} {g : Nat → Int} {v : Value} (ha : Fits a) (hln : ln ≤ 17592186043904) (hi : IntsAt w va ln g) (hc : Known1 A (mkF A 13 a b c ((List.range ln).map g))) :
    Calls Tryz.prog 15 #[ptr s, opV 13 m a b c (.slice va ln lc) v] w (MadeR w own tg s A (mkF A 13 a b c ((List.range ln).map g))) := by
  obtain ⟨wb, hwb⟩ : ∃ wb, wb = w.alloc (.cells (opC 13 m a b c (.slice va ln lc) v) 34) := ⟨_, rfl⟩
  have hkb : Keeps [] w wb := by rw [hwb]; exact (Keeps.refl _ _).alloc _
  obtain ⟨ls, hls⟩ : ∃ ls, ls = (List.range ln).map g := ⟨_, rfl⟩
  have hlen : ln = ls.length := by rw [hls]; simp
  have H : Hid (Calls Tryz.prog 38 #[.pointer (some ⟨s, 0, none⟩), .int .i64 a, .slice va ln lc] wb (MadeR wb own tg s A (mkF A 13 a b c ls))) := by
    refine rs_exists hA (h.keeps hA hkb (own' := own) (fun _ _ e => e)) hD hla a b c ls (by omega) hlen ?_ (by rw [hls]; exact hc)
    rw [hls]
    exact (hi.keeps hkb).list
  rw [← hls]
  have HA : Hid (AbsOk A) := hA
  clear hA h hla hc hD hi hls hlen
  unfold Fits at ha
  show Calls Tryz.prog 15 #[.pointer (some ⟨s, 0, none⟩), .agg #[.int .i64 13, .int .i64 m, .int .i64 a, .int .i64 b, .int .i64 c, .slice va ln lc, v]] w _
  unfold opC at hwb
  go_enter Tryz.func15, Tryz.ntmps15
  go_wp2_with fail
  rw [← hwb]
  clear hwb
  refine H.out.mono ?_
  intro e w' hh
  have hm : Hid (MadeR w own tg s A (mkF A 13 a b c ls) e w') := hh.from HA.out hkb
  have he := hh.1
  clear hh
  obtain ⟨x, hx⟩ : ∃ x, x = (madeOf A (mkF A 13 a b c ls)).1 := ⟨_, rfl⟩
  obtain ⟨y, hy⟩ : ∃ y, y = (madeOf A (mkF A 13 a b c ls)).2.1 := ⟨_, rfl⟩
  rw [← hx, ← hy] at he
  clear hx hy
  subst he
  go_wp2_with fail
  go_ret2
  exact hm.out

set_option maxRecDepth 100000 in
set_option maxHeartbeats 2000000 in
theorem makes13 {w0 : World} {K i : Nat} {ps : List Pr} {hs : List Nat} (hW : WX (fun j => j ≠ i) w0 w own W ps hs K) (hK : K ≤ 4000000000000) (htg : tg = (2, i) ∨ tg = (3, i)) (hA : AbsOk A) (h : PS w own tg s A lb) (hg : A.la + 1 ≤ 4611686018427387904) (hlb : lb + 100000 ≤ 4611686018427387904) {m a b c : Int} {va : Option Addr} {ln lc : Nat} {g : Nat → Int} {v : Value} (ha : Fits a) (hln : ln ≤ 17592186043904) (hi : IntsAt w0 va ln g) :
    Calls Tryz.prog 14 #[ptr W, ptr s, opV 13 m a b c (.slice va ln lc) v] w (MadeW (fun j => j ≠ i) w0 w own W ps K tg s A lb (mkF A 13 a b c ((List.range ln).map g))) := by
  obtain ⟨wb, hwb⟩ : ∃ wb, wb = w.alloc (.cells (opC 13 m a b c (.slice va ln lc) v) 34) := ⟨_, rfl⟩
  have hkb : Keeps [] w wb := by rw [hwb]; exact (Keeps.refl _ _).alloc _
  have hcb : ∀ j u, (opC 13 m a b c (.slice va ln lc) v)[j]? = some u → wb.cell? ⟨w.heap.size, j, none⟩ = some u := fun j u h => by rw [hwb]; exact cell_new w _ _ rfl h
  have o2 : wb.cell? ⟨w.heap.size, 2, none⟩ = some (.int .i64 a) := hcb 2 _ rfl
  have o5 : wb.cell? ⟨w.heap.size, 5, none⟩ = some (.slice va ln lc) := hcb 5 _ rfl
  obtain ⟨ls, hls⟩ : ∃ ls, ls = (List.range ln).map g := ⟨_, rfl⟩
  have hlen : ln = ls.length := by rw [hls]; simp
  have hne0 : tg ≠ (0, 0) := by rcases htg with e | e <;> rw [e] <;> simp
  have hne3 : (0, 3) ≠ tg := by rcases htg with e | e <;> rw [e] <;> simp
  have hiw : IntsAt w va ln g := hi.keeps hW.low
  obtain ⟨own1, hown1⟩ : ∃ own1, own1 = newOwn own w (0, 0) := ⟨_, rfl⟩
  have HL : Hid (Calls Tryz.prog 28 #[.slice va ln lc] wb fun e w' => ∃ q, e = .returned (.slice (some ⟨q, 0, none⟩) (ln + 8) (ln + 8)) ∧ w'.ownsRow wb.heap.size 3 1 (.slice (some ⟨q, 0, none⟩) (ln + 8) (ln + 8)) (ln + 8) (rowI (ln + 8) (lentI ln g)) ∧ Keeps [] wb w') := lent_any hln (hiw.keeps hkb)
  have HP : Hid (∀ (w1 : World) (q cap : Nat), Keeps [] w w1 → (∀ i, i < ln → w1.cell? ⟨q, i, none⟩ = some (.int .i64 (g i))) → Calls Tryz.prog 29 #[.pointer (some ⟨s, 0, none⟩), .int .i64 a, .slice (some ⟨q, 0, none⟩) ln cap] w1 (MadeP w1 own1 tg s A lb (mkF A 13 a b c ls))) := fun w1 q cap hk hc1 =>
    ps_exists hA (h.keeps hk (fun b hb e => by rw [hown1]; exact newOwn_stays hb e)) hg hlb ha b c ls (by omega) hlen (fun j hj => by
      rw [Nat.zero_add, hc1 j (by omega), hls, listI (by omega)])
  have HW : Hid (WX (fun j => j ≠ i) w0 w own W ps hs K) := hW
  have HI : Hid (IntsAt w0 va ln g) := hi
  have HO1 : Hid (own1 = newOwn own w (0, 0)) := hown1
  have hln' : (ln : Int) ≤ 17592186043904 := by omega
  have hln0 : (0 : Int) ≤ (ln : Int) := by omega
  have hln8 : (ln : Int) ≤ ((ln + 8 : Nat) : Int) := by omega
  have hln9 : (ln : Int) ≤ (ln : Int) + 8 := by omega
  have lb1 : w.heap.size < wb.heap.size := cell_lt o2
  rw [← hls]
  obtain ⟨X, hX⟩ : ∃ X, X = (madeOf A (mkF A 13 a b c ls)).1 := ⟨_, rfl⟩
  obtain ⟨Y, hY⟩ : ∃ Y, Y = (madeOf A (mkF A 13 a b c ls)).2.1 := ⟨_, rfl⟩
  have HXY : Hid (X = (madeOf A (mkF A 13 a b c ls)).1 ∧ Y = (madeOf A (mkF A 13 a b c ls)).2.1) := ⟨hX, hY⟩
  clear hW hA h hg hlb hi hiw hls hlen hcb hown1 hX hY
  unfold Fits at ha
  show Calls Tryz.prog 14 #[.pointer (some ⟨W, 0, none⟩), .pointer (some ⟨s, 0, none⟩), .agg #[.int .i64 13, .int .i64 m, .int .i64 a, .int .i64 b, .int .i64 c, .slice va ln lc, v]] w _
  unfold opC at hwb
  go_enter Tryz.func14, Tryz.ntmps14
  go_wp2_with fail
  rw [← hwb]
  clear hwb
  refine HL.out.mono ?_
  rintro e w1 ⟨q, rfl, hrow1, hk1⟩
  have z2 := hk1.cell o2 (by simp)
  have z5 := hk1.cell o5 (by simp)
  have hkw1 := hkb.trans hk1
  have HC1 : Hid (∀ i, i < ln → w1.cell? ⟨q, i, none⟩ = some (.int .i64 (g i))) := fun i hi => by
    rw [World.ownsRow.cellAt hrow1 i (by omega), rowI_get _ (by omega)]
    simp [lentI, hi]
  have HROW1 : Hid (w1.ownsRow wb.heap.size 3 1 (.slice (some ⟨q, 0, none⟩) (ln + 8) (ln + 8)) (ln + 8) (rowI (ln + 8) (lentI ln g))) := hrow1
  clear hrow1
  go_wp2_with fail
  go_region_held3 (fun w' => w'.cell? ⟨w.heap.size, 2, none⟩ = some (.int .i64 a) ∧ w'.cell? ⟨w.heap.size, 5, none⟩ = some (.slice va ln lc))
    (first | exact ⟨z2, z5⟩ | exact ⟨y2, y5⟩ | assumption)
    (first
      | (go_at_call 29; refine (HP.out w1.drew q _ hkw1.drew (fun i hi => HC1.out i hi)).mono ?_; intro e w2 hh2; have he2 := hh2.1; rw [← HXY.out.1, ← HXY.out.2] at he2; have HH2 : Hid (MadeP w1.drew own1 tg s A lb (mkF A 13 a b c ls) e w2) := hh2; have ob : own1 w.heap.size = (0, 0) := (by rw [HO1.out]; exact newOwn_new (Nat.le_refl _)); have y2 := hh2.2.2.2.cell (p := ⟨w.heap.size, 2, none⟩) z2 (by show ¬ (own1 w.heap.size = tg); rw [ob]; exact fun e => hne0 e.symm); have y5 := hh2.2.2.2.cell (p := ⟨w.heap.size, 5, none⟩) z5 (by show ¬ (own1 w.heap.size = tg); rw [ob]; exact fun e => hne0 e.symm); subst he2; clear hh2))
  have hMP := HH2.out
  have hWd : WX (fun j => j ≠ i) w0 w1.drew own1 W ps hs K := HW.out.keeps hkw1.drew (fun b t hb _ e => by rw [HO1.out]; exact newOwn_stays hb e)
  have hMW := hMP.world hWd htg
  obtain ⟨own2, hown2⟩ : ∃ own2, own2 = newOwn own1 w1.drew tg := ⟨_, rfl⟩
  have hW2 : WX (fun j => j ≠ i) w0 w2 own2 W ps hs K := by
    rw [hown2]
    refine hWd.frame hMP.2.2.2 ?_ ?_ ?_ ?_ ?_ ?_ (fun b t hb _ e => newOwn_stays hb e) hWd.low.size
    · rcases htg with e | e <;> rw [e] <;> simp
    · rcases htg with e | e <;> rw [e] <;> simp
    · intro j hj; rcases htg with e | e <;> rw [e] <;> simp; exact hj
    · intro j hj; rcases htg with e | e <;> rw [e] <;> simp; exact hj
    · intro j hj; rcases htg with e | e <;> rw [e] <;> simp
    · intro j; rcases htg with e | e <;> rw [e] <;> simp
  have hq1 : wb.heap.size ≤ q ∧ q < w1.heap.size := HROW1.out.lt q rfl
  have oq1 : own1 q = (0, 0) := by rw [HO1.out]; exact newOwn_new (by omega)
  have oq2 : own2 q = (0, 0) := by rw [hown2]; exact newOwn_stays (show q < w1.drew.heap.size from hq1.2) oq1
  have hrow2 : w2.ownsRow wb.heap.size 3 1 (.slice (some ⟨q, 0, none⟩) (ln + 8) (ln + 8)) (ln + 8) (rowI (ln + 8) (lentI ln g)) := hMP.2.2.2.row (HROW1.out.drew) (fun g' e => by
    have e2 : q = g' := by have : some q = some g' := e; simpa using this
    rw [← e2, oq1]
    exact fun e => hne0 e.symm)
  have hs2 := hMP.2.2.2.size
  have hs1 : wb.heap.size ≤ w1.heap.size := hk1.size
  have hu := unhurt_any (vc := lc) (va_n := 0) hW2 hK hrow2 (by have : w1.drew.heap.size = w1.heap.size := rfl; omega) hln oq2 (HI.out.keeps hW2.low)
  have HU : Hid (Calls Tryz.prog 30 #[.pointer (some ⟨W, 0, none⟩), .slice (some ⟨q, 0, none⟩) (ln + 8) (ln + 8), .slice va ln lc] w2 fun e w' => e = .returned (.tuple #[]) ∧ MadeW (fun j => j ≠ i) w0 w own W ps K tg s A lb (mkF A 13 a b c ls) (.returned (.tuple #[.int .i64 X, .int .i64 Y])) w') := by
    refine Calls.mono hu ?_
    rintro e w3 ⟨rfl, own3, h3, hW3, hon3, hown3, hfr3⟩
    refine ⟨rfl, by rw [HXY.out.1, HXY.out.2], hMP.2.1, own3, _, hW3, ?_, ?_, fun b t hb hne e => ?_, fun p u h0 hc => ?_⟩
    · have hps := hMP.2.2.1
      rw [← hown2] at hps
      exact hps.frame hon3 (by intro e; rcases e with e | e <;> rcases htg with e' | e' <;> rw [e'] at e <;> simp at e) (fun b hb e => hown3 b tg hb hne0 e)
    · obtain ⟨S1, g1, g2⟩ := hMP.2.2.2
      obtain ⟨S2, g3, g4⟩ := hon3
      have hkk := hkw1.drew
      refine ⟨S1 ++ S2, ((hkk.mono (by simp)).trans (g1.mono (by simp +contextual))).trans (g3.mono (by simp +contextual)), fun b hb => ?_⟩
      by_cases hl : b < w.heap.size
      · left
        have hl1 : b < w1.drew.heap.size := by have := hkk.size; omega
        have hl2 : b < w2.heap.size := by have := g1.size; omega
        have e1 : own1 b = own b := by rw [HO1.out]; exact newOwn_old hl
        have e2 : own2 b = own b := by rw [hown2, newOwn_old hl1]; exact e1
        rcases List.mem_append.1 hb with hb | hb
        · rcases g2 b hb with e | e
          · rw [e1] at e; exact Or.inr (Or.inr e)
          · omega
        · rcases g4 b hb with e | e
          · rw [e2] at e; exact e.imp id Or.inl
          · omega
      · exact Or.inr (by omega)
    · have hl1 : b < w1.drew.heap.size := by have := hkw1.drew.size; omega
      have e1 : own1 b = t := by rw [HO1.out]; exact newOwn_stays hb e
      have e2 : own2 b = t := by rw [hown2]; exact newOwn_stays hl1 e1
      exact hown3 b t (by omega) hne e2
    · have hl := cell_lt hc
      have hl1 : p.block < w1.drew.heap.size := by have := hkw1.drew.size; omega
      have e1 : own1 p.block = (0, 3) := by rw [HO1.out]; exact newOwn_stays hl h0
      have e2 : own2 p.block = (0, 3) := by rw [hown2]; exact newOwn_stays hl1 e1
      exact hfr3 p u e2 (hMP.2.2.2.cell (hkw1.drew.cell hc (by simp)) (by rw [e1]; exact hne3))
  clear hMP hWd hMW hW2 hrow2 hu
  go_wp2_with fail
  refine HU.out.mono ?_
  rintro e w3 ⟨rfl, hfin⟩
  have HFIN : Hid (MadeW (fun j => j ≠ i) w0 w own W ps K tg s A lb (mkF A 13 a b c ls) (.returned (.tuple #[.int .i64 X, .int .i64 Y])) w3) := hfin
  clear hfin
  go_wp2_with fail
  go_ret2
  exact HFIN.out
end

end Go.Proofs.YtmgjegokkbghlaaGreat
