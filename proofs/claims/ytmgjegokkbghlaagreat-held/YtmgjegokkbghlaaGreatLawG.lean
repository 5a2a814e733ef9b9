/- The calls that make a function: makes, made. -/
import Derived.Test.YtmgjegokkbghlaaGreatLawF
namespace Go.Proofs.YtmgjegokkbghlaaGreat
open Go.RowKit Go.Maps Bdd
set_option linter.unusedVariables false
attribute [local go_sem ↓] Go.wp_at_zero Go.wp_at_succ

theorem PS.owned {w : World} {own own' : Own} {tg : Tag} {s : Nat} {A : Abs} {lb : Int} (h : PS w own tg s A lb) (ho : ∀ b, own b = tg → own' b = tg) : PS w own' tg s A lb := h.keeps (Keeps.refl _ _) (fun b _ e => ho b e)
theorem RW.owned {w : World} {own own' : Own} {tg : Tag} {r : Nat} {A : Abs} (h : RW w own tg r A) (hA : AbsOk A) (ho : ∀ b, own b = tg → own' b = tg) : RW w own' tg r A := h.keeps hA (Keeps.refl _ _) (fun b _ e => ho b e)
theorem newOwn_from {own : Own} {w wb : World} {tg : Tag} (hs : w.heap.size ≤ wb.heap.size) : ∀ b, newOwn own wb tg b = tg → newOwn own w tg b = tg := fun b e => by
  unfold newOwn at e ⊢
  by_cases h : b < w.heap.size
  · rw [if_pos (by omega)] at e
    rw [if_pos h]; exact e
  · rw [if_neg h]
theorem Onlys.from {own : Own} {T : Tag → Prop} {w wb w' : World} (hk : Keeps [] w wb) (h : Onlys own T wb w') : Onlys own T w w' := by
  obtain ⟨S, h1, h2⟩ := h
  exact ⟨S, (hk.mono (by simp)).trans h1, fun b hb => (h2 b hb).imp id (fun e => Nat.le_trans hk.size e)⟩
theorem MadeP.from {w wb w' : World} {own : Own} {tg : Tag} {s : Nat} {A : Abs} {lb : Int} {m : Int ⊕ Fun} {e : Ending} (hk : Keeps [] w wb) (h : MadeP wb own tg s A lb m e w') : MadeP w own tg s A lb m e w' :=
  ⟨h.1, h.2.1, h.2.2.1.owned (newOwn_from hk.size), h.2.2.2.from hk⟩
theorem MadeR.from {w wb w' : World} {own : Own} {tg : Tag} {r : Nat} {A : Abs} {m : Int ⊕ Fun} {e : Ending} (hA : AbsOk A) (hk : Keeps [] w wb) (h : MadeR wb own tg r A m e w') : MadeR w own tg r A m e w' :=
  ⟨h.1, h.2.1.owned (hA.made m) (newOwn_from hk.size), h.2.2.from hk⟩

section
variable {w : World} {own : Own} {tg : Tag} {s W : Nat} {A : Abs} {lb : Int}
set_option maxRecDepth 100000 in
set_option maxHeartbeats 1000000 in
theorem makes2 (hA : AbsOk A) (h : PS w own tg s A lb) (hg : A.la + 1 ≤ 4611686018427387904) (hlb : lb + 100000 ≤ 4611686018427387904) {m a b c : Int} {l v : Value} (ha : Fits a) (hb : Fits b) (hc : Fits c) :
    Calls Tryz.prog 14 #[ptr W, ptr s, opV 2 m a b c l v] w (MadeP w own tg s A lb (mk A 2 a b c)) := by
  obtain ⟨wb, hwb⟩ : ∃ wb, wb = w.alloc (.cells (opC 2 m a b c l v) 34) := ⟨_, rfl⟩
  have hkb : Keeps [] w wb := by rw [hwb]; exact (Keeps.refl _ _).alloc _
  have H : Hid (Calls Tryz.prog 22 #[.pointer (some ⟨s, 0, none⟩), .bool (a.tmod 2 != 0)] wb (MadeP wb own tg s A lb (mk A 2 a b c))) := ps_constant hA (h.keeps hkb (own' := own) (fun _ _ e => e)) hg a b c
  clear hA h hg hlb
  unfold Fits at ha hb hc
  show Calls Tryz.prog 14 #[.pointer (some ⟨W, 0, none⟩), .pointer (some ⟨s, 0, none⟩), .agg #[.int .i64 2, .int .i64 m, .int .i64 a, .int .i64 b, .int .i64 c, l, v]] w _
  unfold opC at hwb
  go_enter Tryz.func14, Tryz.ntmps14
  go_wp2_with fail
  rw [← hwb]
  clear hwb
  refine H.out.mono ?_
  intro e w' hh
  have hm : Hid (MadeP w own tg s A lb (mk A 2 a b c) e w') := hh.from hkb
  have he := hh.1
  clear hh
  obtain ⟨x, hx⟩ : ∃ x, x = (madeOf A (mk A 2 a b c)).1 := ⟨_, rfl⟩
  obtain ⟨y, hy⟩ : ∃ y, y = (madeOf A (mk A 2 a b c)).2.1 := ⟨_, rfl⟩
  rw [← hx, ← hy] at he
  clear hx hy
  subst he
  go_wp2_with fail
  go_ret2
  exact hm.out

set_option maxRecDepth 100000 in
set_option maxHeartbeats 1000000 in
theorem makes3 (hA : AbsOk A) (h : PS w own tg s A lb) (hg : A.la + 1 ≤ 4611686018427387904) (hlb : lb + 100000 ≤ 4611686018427387904) {m a b c : Int} {l v : Value} (ha : Fits a) (hb : Fits b) (hc : Fits c) :
    Calls Tryz.prog 14 #[ptr W, ptr s, opV 3 m a b c l v] w (MadeP w own tg s A lb (mk A 3 a b c)) := by
  obtain ⟨wb, hwb⟩ : ∃ wb, wb = w.alloc (.cells (opC 3 m a b c l v) 34) := ⟨_, rfl⟩
  have hkb : Keeps [] w wb := by rw [hwb]; exact (Keeps.refl _ _).alloc _
  have H : Hid (Calls Tryz.prog 23 #[.pointer (some ⟨s, 0, none⟩), .int .i64 a] wb (MadeP wb own tg s A lb (mk A 3 a b c))) := ps_variable hA (h.keeps hkb (own' := own) (fun _ _ e => e)) hg hlb a b c
  clear hA h hg hlb
  unfold Fits at ha hb hc
  show Calls Tryz.prog 14 #[.pointer (some ⟨W, 0, none⟩), .pointer (some ⟨s, 0, none⟩), .agg #[.int .i64 3, .int .i64 m, .int .i64 a, .int .i64 b, .int .i64 c, l, v]] w _
  unfold opC at hwb
  go_enter Tryz.func14, Tryz.ntmps14
  go_wp2_with fail
  rw [← hwb]
  clear hwb
  refine H.out.mono ?_
  intro e w' hh
  have hm : Hid (MadeP w own tg s A lb (mk A 3 a b c) e w') := hh.from hkb
  have he := hh.1
  clear hh
  obtain ⟨x, hx⟩ : ∃ x, x = (madeOf A (mk A 3 a b c)).1 := ⟨_, rfl⟩
  obtain ⟨y, hy⟩ : ∃ y, y = (madeOf A (mk A 3 a b c)).2.1 := ⟨_, rfl⟩
  rw [← hx, ← hy] at he
  clear hx hy
  subst he
  go_wp2_with fail
  go_ret2
  exact hm.out

set_option maxRecDepth 100000 in
set_option maxHeartbeats 1000000 in
theorem makes4 (hA : AbsOk A) (h : PS w own tg s A lb) (hg : A.la + 1 ≤ 4611686018427387904) (hlb : lb + 100000 ≤ 4611686018427387904) {m a b c : Int} {l v : Value} (ha : Fits a) (hb : Fits b) (hc : Fits c) :
    Calls Tryz.prog 14 #[ptr W, ptr s, opV 4 m a b c l v] w (MadeP w own tg s A lb (mk A 4 a b c)) := by
  obtain ⟨wb, hwb⟩ : ∃ wb, wb = w.alloc (.cells (opC 4 m a b c l v) 34) := ⟨_, rfl⟩
  have hkb : Keeps [] w wb := by rw [hwb]; exact (Keeps.refl _ _).alloc _
  have H : Hid (Calls Tryz.prog 24 #[.pointer (some ⟨s, 0, none⟩), .int .i64 a] wb (MadeP wb own tg s A lb (mk A 4 a b c))) := ps_not hA (h.keeps hkb (own' := own) (fun _ _ e => e)) hg hlb ha b c
  clear hA h hg hlb
  unfold Fits at ha hb hc
  show Calls Tryz.prog 14 #[.pointer (some ⟨W, 0, none⟩), .pointer (some ⟨s, 0, none⟩), .agg #[.int .i64 4, .int .i64 m, .int .i64 a, .int .i64 b, .int .i64 c, l, v]] w _
  unfold opC at hwb
  go_enter Tryz.func14, Tryz.ntmps14
  go_wp2_with fail
  rw [← hwb]
  clear hwb
  refine H.out.mono ?_
  intro e w' hh
  have hm : Hid (MadeP w own tg s A lb (mk A 4 a b c) e w') := hh.from hkb
  have he := hh.1
  clear hh
  obtain ⟨x, hx⟩ : ∃ x, x = (madeOf A (mk A 4 a b c)).1 := ⟨_, rfl⟩
  obtain ⟨y, hy⟩ : ∃ y, y = (madeOf A (mk A 4 a b c)).2.1 := ⟨_, rfl⟩
  rw [← hx, ← hy] at he
  clear hx hy
  subst he
  go_wp2_with fail
  go_ret2
  exact hm.out

set_option maxRecDepth 100000 in
set_option maxHeartbeats 1000000 in
theorem makes5 (hA : AbsOk A) (h : PS w own tg s A lb) (hg : A.la + 1 ≤ 4611686018427387904) (hlb : lb + 100000 ≤ 4611686018427387904) {m a b c : Int} {l v : Value} (ha : Fits a) (hb : Fits b) (hc : Fits c) :
    Calls Tryz.prog 14 #[ptr W, ptr s, opV 5 m a b c l v] w (MadeP w own tg s A lb (mk A 5 a b c)) := by
  obtain ⟨wb, hwb⟩ : ∃ wb, wb = w.alloc (.cells (opC 5 m a b c l v) 34) := ⟨_, rfl⟩
  have hkb : Keeps [] w wb := by rw [hwb]; exact (Keeps.refl _ _).alloc _
  have H : Hid (Calls Tryz.prog 25 #[.pointer (some ⟨s, 0, none⟩), .int .i64 a, .int .i64 b, .int .i64 c] wb (MadeP wb own tg s A lb (mk A 5 a b c))) := ps_apply hA (h.keeps hkb (own' := own) (fun _ _ e => e)) hg hlb a hb hc
  clear hA h hg hlb
  unfold Fits at ha hb hc
  show Calls Tryz.prog 14 #[.pointer (some ⟨W, 0, none⟩), .pointer (some ⟨s, 0, none⟩), .agg #[.int .i64 5, .int .i64 m, .int .i64 a, .int .i64 b, .int .i64 c, l, v]] w _
  unfold opC at hwb
  go_enter Tryz.func14, Tryz.ntmps14
  go_wp2_with fail
  rw [← hwb]
  clear hwb
  refine H.out.mono ?_
  intro e w' hh
  have hm : Hid (MadeP w own tg s A lb (mk A 5 a b c) e w') := hh.from hkb
  have he := hh.1
  clear hh
  obtain ⟨x, hx⟩ : ∃ x, x = (madeOf A (mk A 5 a b c)).1 := ⟨_, rfl⟩
  obtain ⟨y, hy⟩ : ∃ y, y = (madeOf A (mk A 5 a b c)).2.1 := ⟨_, rfl⟩
  rw [← hx, ← hy] at he
  clear hx hy
  subst he
  go_wp2_with fail
  go_ret2
  exact hm.out

set_option maxRecDepth 100000 in
set_option maxHeartbeats 1000000 in
theorem makes6 (hA : AbsOk A) (h : PS w own tg s A lb) (hg : A.la + 1 ≤ 4611686018427387904) (hlb : lb + 100000 ≤ 4611686018427387904) {m a b c : Int} {l v : Value} (ha : Fits a) (hb : Fits b) (hc : Fits c) :
    Calls Tryz.prog 14 #[ptr W, ptr s, opV 6 m a b c l v] w (MadeP w own tg s A lb (mk A 6 a b c)) := by
  obtain ⟨wb, hwb⟩ : ∃ wb, wb = w.alloc (.cells (opC 6 m a b c l v) 34) := ⟨_, rfl⟩
  have hkb : Keeps [] w wb := by rw [hwb]; exact (Keeps.refl _ _).alloc _
  have H : Hid (Calls Tryz.prog 26 #[.pointer (some ⟨s, 0, none⟩), .int .i64 a, .int .i64 b, .int .i64 c] wb (MadeP wb own tg s A lb (mk A 6 a b c))) := ps_choose hA (h.keeps hkb (own' := own) (fun _ _ e => e)) hg hlb ha hb hc
  clear hA h hg hlb
  unfold Fits at ha hb hc
  show Calls Tryz.prog 14 #[.pointer (some ⟨W, 0, none⟩), .pointer (some ⟨s, 0, none⟩), .agg #[.int .i64 6, .int .i64 m, .int .i64 a, .int .i64 b, .int .i64 c, l, v]] w _
  unfold opC at hwb
  go_enter Tryz.func14, Tryz.ntmps14
  go_wp2_with fail
  rw [← hwb]
  clear hwb
  refine H.out.mono ?_
  intro e w' hh
  have hm : Hid (MadeP w own tg s A lb (mk A 6 a b c) e w') := hh.from hkb
  have he := hh.1
  clear hh
  obtain ⟨x, hx⟩ : ∃ x, x = (madeOf A (mk A 6 a b c)).1 := ⟨_, rfl⟩
  obtain ⟨y, hy⟩ : ∃ y, y = (madeOf A (mk A 6 a b c)).2.1 := ⟨_, rfl⟩
  rw [← hx, ← hy] at he
  clear hx hy
  subst he
  go_wp2_with fail
  go_ret2
  exact hm.out

set_option maxRecDepth 100000 in
set_option maxHeartbeats 1000000 in
theorem made2 (hA : AbsOk A) (h : RW w own tg s A) (hla : A.la < 4611686018427387904) {m a b c : Int} {l v : Value} (ha : Fits a) (hc : Known1 A (mk A 2 a b c)) :
    Calls Tryz.prog 15 #[ptr s, opV 2 m a b c l v] w (MadeR w own tg s A (mk A 2 a b c)) := by
  obtain ⟨wb, hwb⟩ : ∃ wb, wb = w.alloc (.cells (opC 2 m a b c l v) 34) := ⟨_, rfl⟩
  have hkb : Keeps [] w wb := by rw [hwb]; exact (Keeps.refl _ _).alloc _
  have H : Hid (Calls Tryz.prog 32 #[.pointer (some ⟨s, 0, none⟩), .bool (a.tmod 2 != 0)] wb (MadeR wb own tg s A (mk A 2 a b c))) := rs_constant hA (h.keeps hA hkb (own' := own) (fun _ _ e => e)) hla a b c hc
  have HA : Hid (AbsOk A) := hA
  clear hA h hla hc
  unfold Fits at ha
  show Calls Tryz.prog 15 #[.pointer (some ⟨s, 0, none⟩), .agg #[.int .i64 2, .int .i64 m, .int .i64 a, .int .i64 b, .int .i64 c, l, v]] w _
  unfold opC at hwb
  go_enter Tryz.func15, Tryz.ntmps15
  go_wp2_with fail
  rw [← hwb]
  clear hwb
  refine H.out.mono ?_
  intro e w' hh
  have hm : Hid (MadeR w own tg s A (mk A 2 a b c) e w') := hh.from HA.out hkb
  have he := hh.1
  clear hh
  obtain ⟨x, hx⟩ : ∃ x, x = (madeOf A (mk A 2 a b c)).1 := ⟨_, rfl⟩
  obtain ⟨y, hy⟩ : ∃ y, y = (madeOf A (mk A 2 a b c)).2.1 := ⟨_, rfl⟩
  rw [← hx, ← hy] at he
  clear hx hy
  subst he
  go_wp2_with fail
  go_ret2
  exact hm.out

set_option maxRecDepth 100000 in
set_option maxHeartbeats 1000000 in
theorem made3 (hA : AbsOk A) (h : RW w own tg s A) (hla : A.la < 4611686018427387904) {m a b c : Int} {l v : Value} (ha : Fits a) (hc : Known1 A (mk A 3 a b c)) :
    Calls Tryz.prog 15 #[ptr s, opV 3 m a b c l v] w (MadeR w own tg s A (mk A 3 a b c)) := by
  obtain ⟨wb, hwb⟩ : ∃ wb, wb = w.alloc (.cells (opC 3 m a b c l v) 34) := ⟨_, rfl⟩
  have hkb : Keeps [] w wb := by rw [hwb]; exact (Keeps.refl _ _).alloc _
  have H : Hid (Calls Tryz.prog 33 #[.pointer (some ⟨s, 0, none⟩), .int .i64 a] wb (MadeR wb own tg s A (mk A 3 a b c))) := rs_variable hA (h.keeps hA hkb (own' := own) (fun _ _ e => e)) hla a b c hc
  have HA : Hid (AbsOk A) := hA
  clear hA h hla hc
  unfold Fits at ha
  show Calls Tryz.prog 15 #[.pointer (some ⟨s, 0, none⟩), .agg #[.int .i64 3, .int .i64 m, .int .i64 a, .int .i64 b, .int .i64 c, l, v]] w _
  unfold opC at hwb
  go_enter Tryz.func15, Tryz.ntmps15
  go_wp2_with fail
  rw [← hwb]
  clear hwb
  refine H.out.mono ?_
  intro e w' hh
  have hm : Hid (MadeR w own tg s A (mk A 3 a b c) e w') := hh.from HA.out hkb
  have he := hh.1
  clear hh
  obtain ⟨x, hx⟩ : ∃ x, x = (madeOf A (mk A 3 a b c)).1 := ⟨_, rfl⟩
  obtain ⟨y, hy⟩ : ∃ y, y = (madeOf A (mk A 3 a b c)).2.1 := ⟨_, rfl⟩
  rw [← hx, ← hy] at he
  clear hx hy
  subst he
  go_wp2_with fail
  go_ret2
  exact hm.out

set_option maxRecDepth 100000 in
set_option maxHeartbeats 1000000 in
theorem made4 (hA : AbsOk A) (h : RW w own tg s A) (hla : A.la < 4611686018427387904) {m a b c : Int} {l v : Value} (ha : Fits a) (hc : Known1 A (mk A 4 a b c)) :
    Calls Tryz.prog 15 #[ptr s, opV 4 m a b c l v] w (MadeR w own tg s A (mk A 4 a b c)) := by
  obtain ⟨wb, hwb⟩ : ∃ wb, wb = w.alloc (.cells (opC 4 m a b c l v) 34) := ⟨_, rfl⟩
  have hkb : Keeps [] w wb := by rw [hwb]; exact (Keeps.refl _ _).alloc _
  have H : Hid (Calls Tryz.prog 34 #[.pointer (some ⟨s, 0, none⟩), .int .i64 a] wb (MadeR wb own tg s A (mk A 4 a b c))) := rs_not hA (h.keeps hA hkb (own' := own) (fun _ _ e => e)) hla a b c hc
  have HA : Hid (AbsOk A) := hA
  clear hA h hla hc
  unfold Fits at ha
  show Calls Tryz.prog 15 #[.pointer (some ⟨s, 0, none⟩), .agg #[.int .i64 4, .int .i64 m, .int .i64 a, .int .i64 b, .int .i64 c, l, v]] w _
  unfold opC at hwb
  go_enter Tryz.func15, Tryz.ntmps15
  go_wp2_with fail
  rw [← hwb]
  clear hwb
  refine H.out.mono ?_
  intro e w' hh
  have hm : Hid (MadeR w own tg s A (mk A 4 a b c) e w') := hh.from HA.out hkb
  have he := hh.1
  clear hh
  obtain ⟨x, hx⟩ : ∃ x, x = (madeOf A (mk A 4 a b c)).1 := ⟨_, rfl⟩
  obtain ⟨y, hy⟩ : ∃ y, y = (madeOf A (mk A 4 a b c)).2.1 := ⟨_, rfl⟩
  rw [← hx, ← hy] at he
  clear hx hy
  subst he
  go_wp2_with fail
  go_ret2
  exact hm.out

set_option maxRecDepth 100000 in
set_option maxHeartbeats 1000000 in
theorem made5 (hA : AbsOk A) (h : RW w own tg s A) (hla : A.la < 4611686018427387904) {m a b c : Int} {l v : Value} (ha : Fits a) (hc : Known1 A (mk A 5 a b c)) :
    Calls Tryz.prog 15 #[ptr s, opV 5 m a b c l v] w (MadeR w own tg s A (mk A 5 a b c)) := by
  obtain ⟨wb, hwb⟩ : ∃ wb, wb = w.alloc (.cells (opC 5 m a b c l v) 34) := ⟨_, rfl⟩
  have hkb : Keeps [] w wb := by rw [hwb]; exact (Keeps.refl _ _).alloc _
  have H : Hid (Calls Tryz.prog 35 #[.pointer (some ⟨s, 0, none⟩), .int .i64 a, .int .i64 b, .int .i64 c] wb (MadeR wb own tg s A (mk A 5 a b c))) := rs_apply hA (h.keeps hA hkb (own' := own) (fun _ _ e => e)) hla a b c hc
  have HA : Hid (AbsOk A) := hA
  clear hA h hla hc
  unfold Fits at ha
  show Calls Tryz.prog 15 #[.pointer (some ⟨s, 0, none⟩), .agg #[.int .i64 5, .int .i64 m, .int .i64 a, .int .i64 b, .int .i64 c, l, v]] w _
  unfold opC at hwb
  go_enter Tryz.func15, Tryz.ntmps15
  go_wp2_with fail
  rw [← hwb]
  clear hwb
  refine H.out.mono ?_
  intro e w' hh
  have hm : Hid (MadeR w own tg s A (mk A 5 a b c) e w') := hh.from HA.out hkb
  have he := hh.1
  clear hh
  obtain ⟨x, hx⟩ : ∃ x, x = (madeOf A (mk A 5 a b c)).1 := ⟨_, rfl⟩
  obtain ⟨y, hy⟩ : ∃ y, y = (madeOf A (mk A 5 a b c)).2.1 := ⟨_, rfl⟩
  rw [← hx, ← hy] at he
  clear hx hy
  subst he
  go_wp2_with fail
  go_ret2
  exact hm.out

set_option maxRecDepth 100000 in
set_option maxHeartbeats 1000000 in
theorem made6 (hA : AbsOk A) (h : RW w own tg s A) (hla : A.la < 4611686018427387904) {m a b c : Int} {l v : Value} (ha : Fits a) (hc : Known1 A (mk A 6 a b c)) :
    Calls Tryz.prog 15 #[ptr s, opV 6 m a b c l v] w (MadeR w own tg s A (mk A 6 a b c)) := by
  obtain ⟨wb, hwb⟩ : ∃ wb, wb = w.alloc (.cells (opC 6 m a b c l v) 34) := ⟨_, rfl⟩
  have hkb : Keeps [] w wb := by rw [hwb]; exact (Keeps.refl _ _).alloc _
  have H : Hid (Calls Tryz.prog 36 #[.pointer (some ⟨s, 0, none⟩), .int .i64 a, .int .i64 b, .int .i64 c] wb (MadeR wb own tg s A (mk A 6 a b c))) := rs_choose hA (h.keeps hA hkb (own' := own) (fun _ _ e => e)) hla a b c hc
  have HA : Hid (AbsOk A) := hA
  clear hA h hla hc
  unfold Fits at ha
  show Calls Tryz.prog 15 #[.pointer (some ⟨s, 0, none⟩), .agg #[.int .i64 6, .int .i64 m, .int .i64 a, .int .i64 b, .int .i64 c, l, v]] w _
  unfold opC at hwb
  go_enter Tryz.func15, Tryz.ntmps15
  go_wp2_with fail
  rw [← hwb]
  clear hwb
  refine H.out.mono ?_
  intro e w' hh
  have hm : Hid (MadeR w own tg s A (mk A 6 a b c) e w') := hh.from HA.out hkb
  have he := hh.1
  clear hh
  obtain ⟨x, hx⟩ : ∃ x, x = (madeOf A (mk A 6 a b c)).1 := ⟨_, rfl⟩
  obtain ⟨y, hy⟩ : ∃ y, y = (madeOf A (mk A 6 a b c)).2.1 := ⟨_, rfl⟩
  rw [← hx, ← hy] at he
  clear hx hy
  subst he
  go_wp2_with fail
  go_ret2
  exact hm.out

theorem makes_any (hA : AbsOk A) (h : PS w own tg s A lb) (hg : A.la + 1 ≤ 4611686018427387904) (hlb : lb + 100000 ≤ 4611686018427387904) {k m a b c : Int} {l v : Value} (hk : 2 ≤ k ∧ k ≤ 6) (ha : Fits a) (hb : Fits b) (hc : Fits c) :
    Calls Tryz.prog 14 #[ptr W, ptr s, opV k m a b c l v] w (MadeP w own tg s A lb (mk A k a b c)) := by
  obtain rfl | rfl | rfl | rfl | rfl : k = 2 ∨ k = 3 ∨ k = 4 ∨ k = 5 ∨ k = 6 := by omega
  · exact makes2 hA h hg hlb ha hb hc
  · exact makes3 hA h hg hlb ha hb hc
  · exact makes4 hA h hg hlb ha hb hc
  · exact makes5 hA h hg hlb ha hb hc
  · exact makes6 hA h hg hlb ha hb hc
theorem made_any (hA : AbsOk A) (h : RW w own tg s A) (hla : A.la < 4611686018427387904) {k m a b c : Int} {l v : Value} (hk : 2 ≤ k ∧ k ≤ 6) (ha : Fits a) (hc : Known1 A (mk A k a b c)) :
    Calls Tryz.prog 15 #[ptr s, opV k m a b c l v] w (MadeR w own tg s A (mk A k a b c)) := by
  obtain rfl | rfl | rfl | rfl | rfl : k = 2 ∨ k = 3 ∨ k = 4 ∨ k = 5 ∨ k = 6 := by omega
  · exact made2 hA h hla ha hc
  · exact made3 hA h hla ha hc
  · exact made4 hA h hla ha hc
  · exact made5 hA h hla ha hc
  · exact made6 hA h hla ha hc
end

end Go.Proofs.YtmgjegokkbghlaaGreat
