/- The calls that make a function: makes, made. Questions: asks. Questions: asks, Value. -/
import Derived.Test.YtmgjegokkbghlaaGreatLawD
import Derived.Deep.RegionHeld3
namespace Go.Proofs.YtmgjegokkbghlaaGreat
open Go.RowKit Go.Maps Bdd
set_option linter.unusedVariables false
attribute [local go_sem ↓] Go.wp_at_zero Go.wp_at_succ

theorem PS.owned {w : World} {own own' : Own} {tg : Tag} {s : Nat} {A : Abs} {lb : Int} (h : PS w own tg s A lb) (ho : ∀ b, own b = tg → own' b = tg) : PS w own' tg s A lb := h.keeps (Keeps.refl _ _) (fun b _ e => ho b e)
theorem RW.owned {w : World} {own own' : Own} {tg : Tag} {r : Nat} {A : Abs} (h : RW w own tg r A) (hA : AbsOk A) (ho : ∀ b, own b = tg → own' b = tg) : RW w own' tg r A := h.keeps hA (Keeps.refl _ _) (fun b _ e => ho b e)
theorem newOwn_from {own : Own} {w wb : World} {tg : Tag} (hs : w.heap.size ≤ wb.heap.size) : ∀ b, newOwn own wb tg b = tg → newOwn own w tg b = tg := fun b e => by
  unfold newOwn at e ⊢
  by_cases h : b < w.heap.size
  · rw [if_pos (by omega)] at e
    rw [if_pos h]; exact e
  · rw [if_neg h]
theorem Onlys.from {own : Own} {T : Tag → Prop} {w wb w' : World} (hk : Keeps [] w wb) (h : Onlys own T wb w') : Onlys own T w w' := by
  obtain ⟨S, h1, h2⟩ := h
  exact ⟨S, (hk.mono (by simp)).trans h1, fun b hb => (h2 b hb).imp id (fun e => Nat.le_trans hk.size e)⟩
theorem MadeP.from {w wb w' : World} {own : Own} {tg : Tag} {s : Nat} {A : Abs} {lb : Int} {m : Int ⊕ Fun} {e : Ending} (hk : Keeps [] w wb) (h : MadeP wb own tg s A lb m e w') : MadeP w own tg s A lb m e w' :=
  ⟨h.1, h.2.1, h.2.2.1.owned (newOwn_from hk.size), h.2.2.2.from hk⟩
theorem MadeR.from {w wb w' : World} {own : Own} {tg : Tag} {r : Nat} {A : Abs} {m : Int ⊕ Fun} {e : Ending} (hA : AbsOk A) (hk : Keeps [] w wb) (h : MadeR wb own tg r A m e w') : MadeR w own tg r A m e w' :=
  ⟨h.1, h.2.1.owned (hA.made m) (newOwn_from hk.size), h.2.2.from hk⟩

section
variable {w : World} {own : Own} {tg : Tag} {s W : Nat} {A : Abs} {lb : Int}
set_option maxRecDepth 100000 in
set_option maxHeartbeats 1000000 in
theorem makes2 (hA : AbsOk A) (h : PS w own tg s A lb) (hg : A.la + 1 ≤ 4611686018427387904) (hlb : lb + 100000 ≤ 4611686018427387904) {m a b c : Int} {l v : Value} (ha : Fits a) (hb : Fits b) (hc : Fits c) :
    Calls Tryz.prog 14 #[ptr W, ptr s, opV 2 m a b c l v] w (MadeP w own tg s A lb (mk A 2 a b c)) := by
  obtain ⟨wb, hwb⟩ : ∃ wb, wb = w.alloc (.cells (opC 2 m a b c l v) 34) := ⟨_, rfl⟩
  have hkb : Keeps [] w wb := by rw [hwb]; exact (Keeps.refl _ _).alloc _
  have H : Hid (Calls Tryz.prog 22 #[.pointer (some ⟨s, 0, none⟩), .bool (a.tmod 2 != 0)] wb (MadeP wb own tg s A lb (mk A 2 a b c))) := ps_constant hA (h.keeps hkb (own' := own) (fun _ _ e => e)) hg a b c
  clear hA h hg hlb
  unfold Fits at ha hb hc
  show Calls Tryz.prog 14 #[.pointer (some ⟨W, 0, none⟩), .pointer (some ⟨s, 0, none⟩), .agg #[.int .i64 2, .int .i64 m, .int .i64 a, .int .i64 b, .int .i64 c, l, v]] w _
  unfold opC at hwb
  go_enter Tryz.func14, Tryz.ntmps14
  go_wp2_with fail
  rw [← hwb]
  clear hwb
  refine H.out.mono ?_
  intro e w' hh
  have hm : Hid (MadeP w own tg s A lb (mk A 2 a b c) e w') := hh.from hkb
  have he := hh.1
  clear hh
  obtain ⟨x, hx⟩ : ∃ x, x = (madeOf A (mk A 2 a b c)).1 := ⟨_, rfl⟩
  obtain ⟨y, hy⟩ : ∃ y, y = (madeOf A (mk A 2 a b c)).2.1 := ⟨_, rfl⟩
  rw [← hx, ← hy] at he
  clear hx hy
  subst he
  go_wp2_with fail
  go_ret2
  exact hm.out

set_option maxRecDepth 100000 in
set_option maxHeartbeats 1000000 in
theorem makes3 (hA : AbsOk A) (h : PS w own tg s A lb) (hg : A.la + 1 ≤ 4611686018427387904) (hlb : lb + 100000 ≤ 4611686018427387904) {m a b c : Int} {l v : Value} (ha : Fits a) (hb : Fits b) (hc : Fits c) :
    Calls Tryz.prog 14 #[ptr W, ptr s, opV 3 m a b c l v] w (MadeP w own tg s A lb (mk A 3 a b c)) := by
  obtain ⟨wb, hwb⟩ : ∃ wb, wb = w.alloc (.cells (opC 3 m a b c l v) 34) := ⟨_, rfl⟩
  have hkb : Keeps [] w wb := by rw [hwb]; exact (Keeps.refl _ _).alloc _
  have H : Hid (Calls Tryz.prog 23 #[.pointer (some ⟨s, 0, none⟩), .int .i64 a] wb (MadeP wb own tg s A lb (mk A 3 a b c))) := ps_variable hA (h.keeps hkb (own' := own) (fun _ _ e => e)) hg hlb a b c
  clear hA h hg hlb
  unfold Fits at ha hb hc
  show Calls Tryz.prog 14 #[.pointer (some ⟨W, 0, none⟩), .pointer (some ⟨s, 0, none⟩), .agg #[.int .i64 3, .int .i64 m, .int .i64 a, .int .i64 b, .int .i64 c, l, v]] w _
  unfold opC at hwb
  go_enter Tryz.func14, Tryz.ntmps14
  go_wp2_with fail
  rw [← hwb]
  clear hwb
  refine H.out.mono ?_
  intro e w' hh
  have hm : Hid (MadeP w own tg s A lb (mk A 3 a b c) e w') := hh.from hkb
  have he := hh.1
  clear hh
  obtain ⟨x, hx⟩ : ∃ x, x = (madeOf A (mk A 3 a b c)).1 := ⟨_, rfl⟩
  obtain ⟨y, hy⟩ : ∃ y, y = (madeOf A (mk A 3 a b c)).2.1 := ⟨_, rfl⟩
  rw [← hx, ← hy] at he
  clear hx hy
  subst he
  go_wp2_with fail
  go_ret2
  exact hm.out

set_option maxRecDepth 100000 in
set_option maxHeartbeats 1000000 in
theorem makes4 (hA : AbsOk A) (h : PS w own tg s A lb) (hg : A.la + 1 ≤ 4611686018427387904) (hlb : lb + 100000 ≤ 4611686018427387904) {m a b c : Int} {l v : Value} (ha : Fits a) (hb : Fits b) (hc : Fits c) :
    Calls Tryz.prog 14 #[ptr W, ptr s, opV 4 m a b c l v] w (MadeP w own tg s A lb (mk A 4 a b c)) := by
  obtain ⟨wb, hwb⟩ : ∃ wb, wb = w.alloc (.cells (opC 4 m a b c l v) 34) := ⟨_, rfl⟩
  have hkb : Keeps [] w wb := by rw [hwb]; exact (Keeps.refl _ _).alloc _
  have H : Hid (Calls Tryz.prog 24 #[.pointer (some ⟨s, 0, none⟩), .int .i64 a] wb (MadeP wb own tg s A lb (mk A 4 a b c))) := ps_not hA (h.keeps hkb (own' := own) (fun _ _ e => e)) hg hlb ha b c
  clear hA h hg hlb
  unfold Fits at ha hb hc
  show Calls Tryz.prog 14 #[.pointer (some ⟨W, 0, none⟩), .pointer (some ⟨s, 0, none⟩), .agg #[.int .i64 4, .int .i64 m, .int .i64 a, .int .i64 b, .int .i64 c, l, v]] w _
  unfold opC at hwb
  go_enter Tryz.func14, Tryz.ntmps14
  go_wp2_with fail
  rw [← hwb]
  clear hwb
  refine H.out.mono ?_
  intro e w' hh
  have hm : Hid (MadeP w own tg s A lb (mk A 4 a b c) e w') := hh.from hkb
  have he := hh.1
  clear hh
  obtain ⟨x, hx⟩ : ∃ x, x = (madeOf A (mk A 4 a b c)).1 := ⟨_, rfl⟩
  obtain ⟨y, hy⟩ : ∃ y, y = (madeOf A (mk A 4 a b c)).2.1 := ⟨_, rfl⟩
  rw [← hx, ← hy] at he
  clear hx hy
  subst he
  go_wp2_with fail
  go_ret2
  exact hm.out

set_option maxRecDepth 100000 in
set_option maxHeartbeats 1000000 in
theorem makes5 (hA : AbsOk A) (h : PS w own tg s A lb) (hg : A.la + 1 ≤ 4611686018427387904) (hlb : lb + 100000 ≤ 4611686018427387904) {m a b c : Int} {l v : Value} (ha : Fits a) (hb : Fits b) (hc : Fits c) :
    Calls Tryz.prog 14 #[ptr W, ptr s, opV 5 m a b c l v] w (MadeP w own tg s A lb (mk A 5 a b c)) := by
  obtain ⟨wb, hwb⟩ : ∃ wb, wb = w.alloc (.cells (opC 5 m a b c l v) 34) := ⟨_, rfl⟩
  have hkb : Keeps [] w wb := by rw [hwb]; exact (Keeps.refl _ _).alloc _
  have H : Hid (Calls Tryz.prog 25 #[.pointer (some ⟨s, 0, none⟩), .int .i64 a, .int .i64 b, .int .i64 c] wb (MadeP wb own tg s A lb (mk A 5 a b c))) := ps_apply hA (h.keeps hkb (own' := own) (fun _ _ e => e)) hg hlb a hb hc
  clear hA h hg hlb
  unfold Fits at ha hb hc
  show Calls Tryz.prog 14 #[.pointer (some ⟨W, 0, none⟩), .pointer (some ⟨s, 0, none⟩), .agg #[.int .i64 5, .int .i64 m, .int .i64 a, .int .i64 b, .int .i64 c, l, v]] w _
  unfold opC at hwb
  go_enter Tryz.func14, Tryz.ntmps14
  go_wp2_with fail
  rw [← hwb]
  clear hwb
  refine H.out.mono ?_
  intro e w' hh
  have hm : Hid (MadeP w own tg s A lb (mk A 5 a b c) e w') := hh.from hkb
  have he := hh.1
  clear hh
  obtain ⟨x, hx⟩ : ∃ x, x = (madeOf A (mk A 5 a b c)).1 := ⟨_, rfl⟩
  obtain ⟨y, hy⟩ : ∃ y, y = (madeOf A (mk A 5 a b c)).2.1 := ⟨_, rfl⟩
  rw [← hx, ← hy] at he
  clear hx hy
  subst he
  go_wp2_with fail
  go_ret2
  exact hm.out

set_option maxRecDepth 100000 in
set_option maxHeartbeats 1000000 in
theorem makes6 (hA : AbsOk A) (h : PS w own tg s A lb) (hg : A.la + 1 ≤ 4611686018427387904) (hlb : lb + 100000 ≤ 4611686018427387904) {m a b c : Int} {l v : Value} (ha : Fits a) (hb : Fits b) (hc : Fits c) :
    Calls Tryz.prog 14 #[ptr W, ptr s, opV 6 m a b c l v] w (MadeP w own tg s A lb (mk A 6 a b c)) := by
  obtain ⟨wb, hwb⟩ : ∃ wb, wb = w.alloc (.cells (opC 6 m a b c l v) 34) := ⟨_, rfl⟩
  have hkb : Keeps [] w wb := by rw [hwb]; exact (Keeps.refl _ _).alloc _
  have H : Hid (Calls Tryz.prog 26 #[.pointer (some ⟨s, 0, none⟩), .int .i64 a, .int .i64 b, .int .i64 c] wb (MadeP wb own tg s A lb (mk A 6 a b c))) := ps_choose hA (h.keeps hkb (own' := own) (fun _ _ e => e)) hg hlb ha hb hc
  clear hA h hg hlb
  unfold Fits at ha hb hc
  show Calls Tryz.prog 14 #[.pointer (some ⟨W, 0, none⟩), .pointer (some ⟨s, 0, none⟩), .agg #[.int .i64 6, .int .i64 m, .int .i64 a, .int .i64 b, .int .i64 c, l, v]] w _
  unfold opC at hwb
  go_enter Tryz.func14, Tryz.ntmps14
  go_wp2_with fail
  rw [← hwb]
  clear hwb
  refine H.out.mono ?_
  intro e w' hh
  have hm : Hid (MadeP w own tg s A lb (mk A 6 a b c) e w') := hh.from hkb
  have he := hh.1
  clear hh
  obtain ⟨x, hx⟩ : ∃ x, x = (madeOf A (mk A 6 a b c)).1 := ⟨_, rfl⟩
  obtain ⟨y, hy⟩ : ∃ y, y = (madeOf A (mk A 6 a b c)).2.1 := ⟨_, rfl⟩
  rw [← hx, ← hy] at he
  clear hx hy
  subst he
  go_wp2_with fail
  go_ret2
  exact hm.out

set_option maxRecDepth 100000 in
set_option maxHeartbeats 1000000 in
theorem made2 (hA : AbsOk A) (h : RW w own tg s A) (hla : A.la < 4611686018427387904) {m a b c : Int} {l v : Value} (ha : Fits a) (hc : Known1 A (mk A 2 a b c)) :
    Calls Tryz.prog 15 #[ptr s, opV 2 m a b c l v] w (MadeR w own tg s A (mk A 2 a b c)) := by
  obtain ⟨wb, hwb⟩ : ∃ wb, wb = w.alloc (.cells (opC 2 m a b c l v) 34) := ⟨_, rfl⟩
  have hkb : Keeps [] w wb := by rw [hwb]; exact (Keeps.refl _ _).alloc _
  have H : Hid (Calls Tryz.prog 32 #[.pointer (some ⟨s, 0, none⟩), .bool (a.tmod 2 != 0)] wb (MadeR wb own tg s A (mk A 2 a b c))) := rs_constant hA (h.keeps hA hkb (own' := own) (fun _ _ e => e)) hla a b c hc
  have HA : Hid (AbsOk A) := hA
  clear hA h hla hc
  unfold Fits at ha
  show Calls Tryz.prog 15 #[.pointer (some ⟨s, 0, none⟩), .agg #[.int .i64 2, .int .i64 m, .int .i64 a, .int .i64 b, .int .i64 c, l, v]] w _
  unfold opC at hwb
  go_enter Tryz.func15, Tryz.ntmps15
  go_wp2_with fail
  rw [← hwb]
  clear hwb
  refine H.out.mono ?_
  intro e w' hh
  have hm : Hid (MadeR w own tg s A (mk A 2 a b c) e w') := hh.from HA.out hkb
  have he := hh.1
  clear hh
  obtain ⟨x, hx⟩ : ∃ x, x = (madeOf A (mk A 2 a b c)).1 := ⟨_, rfl⟩
  obtain ⟨y, hy⟩ : ∃ y, y = (madeOf A (mk A 2 a b c)).2.1 := ⟨_, rfl⟩
  rw [← hx, ← hy] at he
  clear hx hy
  subst he
  go_wp2_with fail
  go_ret2
  exact hm.out

set_option maxRecDepth 100000 in
set_option maxHeartbeats 1000000 in
theorem made3 (hA : AbsOk A) (h : RW w own tg s A) (hla : A.la < 4611686018427387904) {m a b c : Int} {l v : Value} (ha : Fits a) (hc : Known1 A (mk A 3 a b c)) :
    Calls Tryz.prog 15 #[ptr s, opV 3 m a b c l v] w (MadeR w own tg s A (mk A 3 a b c)) := by
  obtain ⟨wb, hwb⟩ : ∃ wb, wb = w.alloc (.cells (opC 3 m a b c l v) 34) := ⟨_, rfl⟩
  have hkb : Keeps [] w wb := by rw [hwb]; exact (Keeps.refl _ _).alloc _
  have H : Hid (Calls Tryz.prog 33 #[.pointer (some ⟨s, 0, none⟩), .int .i64 a] wb (MadeR wb own tg s A (mk A 3 a b c))) := rs_variable hA (h.keeps hA hkb (own' := own) (fun _ _ e => e)) hla a b c hc
  have HA : Hid (AbsOk A) := hA
  clear hA h hla hc
  unfold Fits at ha
  show Calls Tryz.prog 15 #[.pointer (some ⟨s, 0, none⟩), .agg #[.int .i64 3, .int .i64 m, .int .i64 a, .int .i64 b, .int .i64 c, l, v]] w _
  unfold opC at hwb
  go_enter Tryz.func15, Tryz.ntmps15
  go_wp2_with fail
  rw [← hwb]
  clear hwb
  refine H.out.mono ?_
  intro e w' hh
  have hm : Hid (MadeR w own tg s A (mk A 3 a b c) e w') := hh.from HA.out hkb
  have he := hh.1
  clear hh
  obtain ⟨x, hx⟩ : ∃ x, x = (madeOf A (mk A 3 a b c)).1 := ⟨_, rfl⟩
  obtain ⟨y, hy⟩ : ∃ y, y = (madeOf A (mk A 3 a b c)).2.1 := ⟨_, rfl⟩
  rw [← hx, ← hy] at he
  clear hx hy
  subst he
  go_wp2_with fail
  go_ret2
  exact hm.out

set_option maxRecDepth 100000 in
set_option maxHeartbeats 1000000 in
theorem made4 (hA : AbsOk A) (h : RW w own tg s A) (hla : A.la < 4611686018427387904) {m a b c : Int} {l v : Value} (ha : Fits a) (hc : Known1 A (mk A 4 a b c)) :
    Calls Tryz.prog 15 #[ptr s, opV 4 m a b c l v] w (MadeR w own tg s A (mk A 4 a b c)) := by
  obtain ⟨wb, hwb⟩ : ∃ wb, wb = w.alloc (.cells (opC 4 m a b c l v) 34) := ⟨_, rfl⟩
  have hkb : Keeps [] w wb := by rw [hwb]; exact (Keeps.refl _ _).alloc _
  have H : Hid (Calls Tryz.prog 34 #[.pointer (some ⟨s, 0, none⟩), .int .i64 a] wb (MadeR wb own tg s A (mk A 4 a b c))) := rs_not hA (h.keeps hA hkb (own' := own) (fun _ _ e => e)) hla a b c hc
  have HA : Hid (AbsOk A) := hA
  clear hA h hla hc
  unfold Fits at ha
  show Calls Tryz.prog 15 #[.pointer (some ⟨s, 0, none⟩), .agg #[.int .i64 4, .int .i64 m, .int .i64 a, .int .i64 b, .int .i64 c, l, v]] w _
  unfold opC at hwb
  go_enter Tryz.func15, Tryz.ntmps15
  go_wp2_with fail
  rw [← hwb]
  clear hwb
  refine H.out.mono ?_
  intro e w' hh
  have hm : Hid (MadeR w own tg s A (mk A 4 a b c) e w') := hh.from HA.out hkb
  have he := hh.1
  clear hh
  obtain ⟨x, hx⟩ : ∃ x, x = (madeOf A (mk A 4 a b c)).1 := ⟨_, rfl⟩
  obtain ⟨y, hy⟩ : ∃ y, y = (madeOf A (mk A 4 a b c)).2.1 := ⟨_, rfl⟩
  rw [← hx, ← hy] at he
  clear hx hy
  subst he
  go_wp2_with fail
  go_ret2
  exact hm.out

set_option maxRecDepth 100000 in
set_option maxHeartbeats 1000000 in
theorem made5 (hA : AbsOk A) (h : RW w own tg s A) (hla : A.la < 4611686018427387904) {m a b c : Int} {l v : Value} (ha : Fits a) (hc : Known1 A (mk A 5 a b c)) :
    Calls Tryz.prog 15 #[ptr s, opV 5 m a b c l v] w (MadeR w own tg s A (mk A 5 a b c)) := by
  obtain ⟨wb, hwb⟩ : ∃ wb, wb = w.alloc (.cells (opC 5 m a b c l v) 34) := ⟨_, rfl⟩
  have hkb : Keeps [] w wb := by rw [hwb]; exact (Keeps.refl _ _).alloc _
  have H : Hid (Calls Tryz.prog 35 #[.pointer (some ⟨s, 0, none⟩), .int .i64 a, .int .i64 b, .int .i64 c] wb (MadeR wb own tg s A (mk A 5 a b c))) := rs_apply hA (h.keeps hA hkb (own' := own) (fun _ _ e => e)) hla a b c hc
  have HA : Hid (AbsOk A) := hA
  clear hA h hla hc
  unfold Fits at ha
  show Calls Tryz.prog 15 #[.pointer (some ⟨s, 0, none⟩), .agg #[.int .i64 5, .int .i64 m, .int .i64 a, .int .i64 b, .int .i64 c, l, v]] w _
  unfold opC at hwb
  go_enter Tryz.func15, Tryz.ntmps15
  go_wp2_with fail
  rw [← hwb]
  clear hwb
  refine H.out.mono ?_
  intro e w' hh
  have hm : Hid (MadeR w own tg s A (mk A 5 a b c) e w') := hh.from HA.out hkb
  have he := hh.1
  clear hh
  obtain ⟨x, hx⟩ : ∃ x, x = (madeOf A (mk A 5 a b c)).1 := ⟨_, rfl⟩
  obtain ⟨y, hy⟩ : ∃ y, y = (madeOf A (mk A 5 a b c)).2.1 := ⟨_, rfl⟩
  rw [← hx, ← hy] at he
  clear hx hy
  subst he
  go_wp2_with fail
  go_ret2
  exact hm.out

set_option maxRecDepth 100000 in
set_option maxHeartbeats 1000000 in
theorem made6 (hA : AbsOk A) (h : RW w own tg s A) (hla : A.la < 4611686018427387904) {m a b c : Int} {l v : Value} (ha : Fits a) (hc : Known1 A (mk A 6 a b c)) :
    Calls Tryz.prog 15 #[ptr s, opV 6 m a b c l v] w (MadeR w own tg s A (mk A 6 a b c)) := by
  obtain ⟨wb, hwb⟩ : ∃ wb, wb = w.alloc (.cells (opC 6 m a b c l v) 34) := ⟨_, rfl⟩
  have hkb : Keeps [] w wb := by rw [hwb]; exact (Keeps.refl _ _).alloc _
  have H : Hid (Calls Tryz.prog 36 #[.pointer (some ⟨s, 0, none⟩), .int .i64 a, .int .i64 b, .int .i64 c] wb (MadeR wb own tg s A (mk A 6 a b c))) := rs_choose hA (h.keeps hA hkb (own' := own) (fun _ _ e => e)) hla a b c hc
  have HA : Hid (AbsOk A) := hA
  clear hA h hla hc
  unfold Fits at ha
  show Calls Tryz.prog 15 #[.pointer (some ⟨s, 0, none⟩), .agg #[.int .i64 6, .int .i64 m, .int .i64 a, .int .i64 b, .int .i64 c, l, v]] w _
  unfold opC at hwb
  go_enter Tryz.func15, Tryz.ntmps15
  go_wp2_with fail
  rw [← hwb]
  clear hwb
  refine H.out.mono ?_
  intro e w' hh
  have hm : Hid (MadeR w own tg s A (mk A 6 a b c) e w') := hh.from HA.out hkb
  have he := hh.1
  clear hh
  obtain ⟨x, hx⟩ : ∃ x, x = (madeOf A (mk A 6 a b c)).1 := ⟨_, rfl⟩
  obtain ⟨y, hy⟩ : ∃ y, y = (madeOf A (mk A 6 a b c)).2.1 := ⟨_, rfl⟩
  rw [← hx, ← hy] at he
  clear hx hy
  subst he
  go_wp2_with fail
  go_ret2
  exact hm.out

theorem makes_any (hA : AbsOk A) (h : PS w own tg s A lb) (hg : A.la + 1 ≤ 4611686018427387904) (hlb : lb + 100000 ≤ 4611686018427387904) {k m a b c : Int} {l v : Value} (hk : 2 ≤ k ∧ k ≤ 6) (ha : Fits a) (hb : Fits b) (hc : Fits c) :
    Calls Tryz.prog 14 #[ptr W, ptr s, opV k m a b c l v] w (MadeP w own tg s A lb (mk A k a b c)) := by
  obtain rfl | rfl | rfl | rfl | rfl : k = 2 ∨ k = 3 ∨ k = 4 ∨ k = 5 ∨ k = 6 := by omega
  · exact makes2 hA h hg hlb ha hb hc
  · exact makes3 hA h hg hlb ha hb hc
  · exact makes4 hA h hg hlb ha hb hc
  · exact makes5 hA h hg hlb ha hb hc
  · exact makes6 hA h hg hlb ha hb hc
theorem made_any (hA : AbsOk A) (h : RW w own tg s A) (hla : A.la < 4611686018427387904) {k m a b c : Int} {l v : Value} (hk : 2 ≤ k ∧ k ≤ 6) (ha : Fits a) (hc : Known1 A (mk A k a b c)) :
    Calls Tryz.prog 15 #[ptr s, opV k m a b c l v] w (MadeR w own tg s A (mk A k a b c)) := by
  obtain rfl | rfl | rfl | rfl | rfl : k = 2 ∨ k = 3 ∨ k = 4 ∨ k = 5 ∨ k = 6 := by omega
  · exact made2 hA h hla ha hc
  · exact made3 hA h hla ha hc
  · exact made4 hA h hla ha hc
  · exact made5 hA h hla ha hc
  · exact made6 hA h hla ha hc
end

end Go.Proofs.YtmgjegokkbghlaaGreat

namespace Go.Proofs.YtmgjegokkbghlaaGreat
open Go.RowKit Go.Maps Bdd
set_option linter.unusedVariables false
attribute [local go_sem ↓] Go.wp_at_zero Go.wp_at_succ

/-- the pair and the call, laid down -/
def boxed (w : World) (p q r : Nat) (k m a b c : Int) (l v : Value) : World := (w.alloc (.cells #[ptr p, ptr q, ptr r] 44)).alloc (.cells (opC k m a b c l v) 34)
theorem boxed_keeps (w : World) (p q r : Nat) (k m a b c : Int) (l v : Value) : Keeps [] w (boxed w p q r k m a b c l v) := ((Keeps.refl _ _).alloc _).alloc _
theorem boxed_pair (w : World) (p q r : Nat) (k m a b c : Int) (l v : Value) : ∀ j u, #[ptr p, ptr q, ptr r][j]? = some u → (boxed w p q r k m a b c l v).cell? ⟨w.heap.size, j, none⟩ = some u := fun j u h => ((Keeps.refl [] _).alloc _).cell (cell_new w _ _ rfl h) (by simp)
theorem boxed_op (w : World) (p q r : Nat) (k m a b c : Int) (l v : Value) : ∀ j u, (opC k m a b c l v)[j]? = some u → (boxed w p q r k m a b c l v).cell? ⟨w.heap.size + 1, j, none⟩ = some u := fun j u h => cell_new _ _ _ (by simp) h

section
variable {w : World} {own own2 : Own} {i : Nat} {x : Pr} {K W : Nat}
set_option maxRecDepth 100000 in
set_option maxHeartbeats 1000000 in
theorem asks8 (h : PairOk w own i x K) {m a b c : Int} {l v : Value} (ha : Fits a) (hb : Fits b) :
    Calls Tryz.prog 19 #[ptr W, .agg #[ptr x.p, ptr x.q, ptr x.r], opV 8 m a b c l v] w fun e w' => e = .returned (.bool true) ∧ Keeps [] w w' := by
  obtain ⟨hA, _, hp, hq, hr⟩ := h
  obtain ⟨wb, hwb⟩ : ∃ wb, wb = boxed w x.p x.q x.r 8 m a b c l v := ⟨_, rfl⟩
  have hkb : Keeps [] w wb := by rw [hwb]; exact boxed_keeps ..
  have x0 : wb.cell? ⟨w.heap.size, 0, none⟩ = some (.pointer (some ⟨x.p, 0, none⟩)) := by rw [hwb]; exact boxed_pair _ _ _ _ _ _ _ _ _ _ _ 0 _ rfl
  have x2 : wb.cell? ⟨w.heap.size, 2, none⟩ = some (.pointer (some ⟨x.r, 0, none⟩)) := by rw [hwb]; exact boxed_pair _ _ _ _ _ _ _ _ _ _ _ 2 _ rfl
  have o0 : wb.cell? ⟨w.heap.size + 1, 0, none⟩ = some (.int .i64 8) := by rw [hwb]; exact boxed_op _ _ _ _ _ _ _ _ _ _ _ 0 _ rfl
  have o2 : wb.cell? ⟨w.heap.size + 1, 2, none⟩ = some (.int .i64 a) := by rw [hwb]; exact boxed_op _ _ _ _ _ _ _ _ _ _ _ 2 _ rfl
  have o3 : wb.cell? ⟨w.heap.size + 1, 3, none⟩ = some (.int .i64 b) := by rw [hwb]; exact boxed_op _ _ _ _ _ _ _ _ _ _ _ 3 _ rfl
  have hPb := hp.keeps hkb (own' := own) (fun _ _ e => e)
  have HP : Hid (Calls Tryz.prog 48 #[.pointer (some ⟨x.p, 0, none⟩), .int .i64 a, .int .i64 b] wb fun e w' => e = .returned (.tuple #[.bool (sameOf x.A a b).1, .int .i64 (sameOf x.A a b).2]) ∧ Keeps [] wb w') := ps_same hPb ha hb
  have HR : Hid (∀ w', Keeps [] wb w' → Calls Tryz.prog 49 #[.pointer (some ⟨x.r, 0, none⟩), .int .i64 a, .int .i64 b] w' fun e w2 => e = .returned (.tuple #[.bool (sameOf x.A a b).1, .int .i64 (sameOf x.A a b).2]) ∧ w' = w2) := fun w' hk => rs_same hPb hA (hr.keeps hA (hkb.trans hk) (own' := own) (fun _ _ e => e)) a b
  obtain ⟨s1, hs1⟩ : ∃ s1, s1 = (sameOf x.A a b).1 := ⟨_, rfl⟩
  obtain ⟨s2, hs2⟩ : ∃ s2, s2 = (sameOf x.A a b).2 := ⟨_, rfl⟩
  rw [← hs1, ← hs2] at HP HR
  clear hs1 hs2
  have e1 : (s1 == s1) = true := by simp
  have e2 : (s2 == s2) = true := by simp
  obtain ⟨p, hp'⟩ : ∃ p, p = x.p := ⟨_, rfl⟩
  obtain ⟨q, hq'⟩ : ∃ q, q = x.q := ⟨_, rfl⟩
  obtain ⟨r, hr'⟩ : ∃ r, r = x.r := ⟨_, rfl⟩
  rw [← hp'] at HP x0 hwb ⊢
  rw [← hr'] at HR x2 hwb ⊢
  rw [← hq'] at hwb ⊢
  clear hA hp hq hr hPb hp' hq' hr'
  unfold Fits at ha hb
  show Calls Tryz.prog 19 #[.pointer (some ⟨W, 0, none⟩), .agg #[.pointer (some ⟨p, 0, none⟩), .pointer (some ⟨q, 0, none⟩), .pointer (some ⟨r, 0, none⟩)], .agg #[.int .i64 8, .int .i64 m, .int .i64 a, .int .i64 b, .int .i64 c, l, v]] w _
  unfold boxed opC ptr at hwb
  go_enter Tryz.func19, Tryz.ntmps19
  go_wp2_with fail
  rw [← hwb]
  clear hwb
  refine HP.out.mono ?_
  rintro e w1 ⟨rfl, hk1⟩
  have y2 := hk1.cell x2 (by simp)
  have z2 := hk1.cell o2 (by simp)
  have z3 := hk1.cell o3 (by simp)
  go_wp2_with fail
  refine (HR.out _ hk1).mono ?_
  rintro e w2 ⟨rfl, rfl⟩
  go_wp2_with fail
  go_ret
  exact ⟨rfl, hkb.trans hk1⟩

set_option maxRecDepth 100000 in
set_option maxHeartbeats 1000000 in
theorem asks10 (h : PairOk w own i x K) {m a b c : Int} {l v : Value} (ha : Fits a) (hb : Fits b) :
    Calls Tryz.prog 19 #[ptr W, .agg #[ptr x.p, ptr x.q, ptr x.r], opV 10 m a b c l v] w fun e w' => e = .returned (.bool true) ∧ Keeps [] w w' := by
  obtain ⟨hA, _, hp, hq, hr⟩ := h
  obtain ⟨wb, hwb⟩ : ∃ wb, wb = boxed w x.p x.q x.r 10 m a b c l v := ⟨_, rfl⟩
  have hkb : Keeps [] w wb := by rw [hwb]; exact boxed_keeps ..
  have x0 : wb.cell? ⟨w.heap.size, 0, none⟩ = some (.pointer (some ⟨x.p, 0, none⟩)) := by rw [hwb]; exact boxed_pair _ _ _ _ _ _ _ _ _ _ _ 0 _ rfl
  have x2 : wb.cell? ⟨w.heap.size, 2, none⟩ = some (.pointer (some ⟨x.r, 0, none⟩)) := by rw [hwb]; exact boxed_pair _ _ _ _ _ _ _ _ _ _ _ 2 _ rfl
  have o0 : wb.cell? ⟨w.heap.size + 1, 0, none⟩ = some (.int .i64 10) := by rw [hwb]; exact boxed_op _ _ _ _ _ _ _ _ _ _ _ 0 _ rfl
  have o2 : wb.cell? ⟨w.heap.size + 1, 2, none⟩ = some (.int .i64 a) := by rw [hwb]; exact boxed_op _ _ _ _ _ _ _ _ _ _ _ 2 _ rfl
  have o3 : wb.cell? ⟨w.heap.size + 1, 3, none⟩ = some (.int .i64 b) := by rw [hwb]; exact boxed_op _ _ _ _ _ _ _ _ _ _ _ 3 _ rfl
  have hPb := hp.keeps hkb (own' := own) (fun _ _ e => e)
  have HP : Hid (Calls Tryz.prog 55 #[.pointer (some ⟨x.p, 0, none⟩), .int .i64 a] wb fun e w' => e = .returned (.tuple #[.int .i64 (countOf x.A a).1, .int .i64 (countOf x.A a).2]) ∧ Keeps [] wb w') := ps_count hPb ha
  have HR : Hid (∀ w', Keeps [] wb w' → Calls Tryz.prog 56 #[.pointer (some ⟨x.r, 0, none⟩), .int .i64 a] w' fun e w2 => e = .returned (.tuple #[.int .i64 (countOf x.A a).1, .int .i64 (countOf x.A a).2]) ∧ w' = w2) := fun w' hk => rs_count hPb hA (hr.keeps hA (hkb.trans hk) (own' := own) (fun _ _ e => e)) a
  obtain ⟨s1, hs1⟩ : ∃ s1, s1 = (countOf x.A a).1 := ⟨_, rfl⟩
  obtain ⟨s2, hs2⟩ : ∃ s2, s2 = (countOf x.A a).2 := ⟨_, rfl⟩
  rw [← hs1, ← hs2] at HP HR
  clear hs1 hs2
  have e1 : (s1 == s1) = true := by simp
  have e2 : (s2 == s2) = true := by simp
  obtain ⟨p, hp'⟩ : ∃ p, p = x.p := ⟨_, rfl⟩
  obtain ⟨q, hq'⟩ : ∃ q, q = x.q := ⟨_, rfl⟩
  obtain ⟨r, hr'⟩ : ∃ r, r = x.r := ⟨_, rfl⟩
  rw [← hp'] at HP x0 hwb ⊢
  rw [← hr'] at HR x2 hwb ⊢
  rw [← hq'] at hwb ⊢
  clear hA hp hq hr hPb hp' hq' hr'
  unfold Fits at ha hb
  show Calls Tryz.prog 19 #[.pointer (some ⟨W, 0, none⟩), .agg #[.pointer (some ⟨p, 0, none⟩), .pointer (some ⟨q, 0, none⟩), .pointer (some ⟨r, 0, none⟩)], .agg #[.int .i64 10, .int .i64 m, .int .i64 a, .int .i64 b, .int .i64 c, l, v]] w _
  unfold boxed opC ptr at hwb
  go_enter Tryz.func19, Tryz.ntmps19
  go_wp2_with fail
  rw [← hwb]
  clear hwb
  refine HP.out.mono ?_
  rintro e w1 ⟨rfl, hk1⟩
  have y2 := hk1.cell x2 (by simp)
  have z2 := hk1.cell o2 (by simp)
  have z3 := hk1.cell o3 (by simp)
  go_wp2_with fail
  refine (HR.out _ hk1).mono ?_
  rintro e w2 ⟨rfl, rfl⟩
  go_wp2_with fail
  go_ret
  exact ⟨rfl, hkb.trans hk1⟩

set_option maxRecDepth 100000 in
set_option maxHeartbeats 1000000 in
theorem asks11 (h : PairOk w own i x K) {m a b c : Int} {l v : Value} (ha : Fits a) (hb : Fits b) :
    Calls Tryz.prog 19 #[ptr W, .agg #[ptr x.p, ptr x.q, ptr x.r], opV 11 m a b c l v] w fun e w' => e = .returned (.bool true) ∧ Keeps [] w w' := by
  obtain ⟨hA, _, hp, hq, hr⟩ := h
  obtain ⟨wb, hwb⟩ : ∃ wb, wb = boxed w x.p x.q x.r 11 m a b c l v := ⟨_, rfl⟩
  have hkb : Keeps [] w wb := by rw [hwb]; exact boxed_keeps ..
  have x0 : wb.cell? ⟨w.heap.size, 0, none⟩ = some (.pointer (some ⟨x.p, 0, none⟩)) := by rw [hwb]; exact boxed_pair _ _ _ _ _ _ _ _ _ _ _ 0 _ rfl
  have x2 : wb.cell? ⟨w.heap.size, 2, none⟩ = some (.pointer (some ⟨x.r, 0, none⟩)) := by rw [hwb]; exact boxed_pair _ _ _ _ _ _ _ _ _ _ _ 2 _ rfl
  have o0 : wb.cell? ⟨w.heap.size + 1, 0, none⟩ = some (.int .i64 11) := by rw [hwb]; exact boxed_op _ _ _ _ _ _ _ _ _ _ _ 0 _ rfl
  have o2 : wb.cell? ⟨w.heap.size + 1, 2, none⟩ = some (.int .i64 a) := by rw [hwb]; exact boxed_op _ _ _ _ _ _ _ _ _ _ _ 2 _ rfl
  have o3 : wb.cell? ⟨w.heap.size + 1, 3, none⟩ = some (.int .i64 b) := by rw [hwb]; exact boxed_op _ _ _ _ _ _ _ _ _ _ _ 3 _ rfl
  have hPb := hp.keeps hkb (own' := own) (fun _ _ e => e)
  have HP : Hid (Calls Tryz.prog 57 #[.pointer (some ⟨x.p, 0, none⟩)] wb fun e w' => e = .returned (.int .i64 (cntOf x.A.n x.A.o (Vof x.A.fs) : Int)) ∧ Keeps [] wb w') := ps_nodes hPb
  have HR : Hid (∀ w', Keeps [] wb w' → Calls Tryz.prog 58 #[.pointer (some ⟨x.r, 0, none⟩)] w' fun e w2 => e = .returned (.int .i64 (cntOf x.A.n x.A.o (Vof x.A.fs) : Int)) ∧ Keeps [] w' w2) := fun w' hk => rs_nodes hPb hA (hr.keeps hA (hkb.trans hk) (own' := own) (fun _ _ e => e))
  obtain ⟨s1, hs1⟩ : ∃ s1 : Int, s1 = (cntOf x.A.n x.A.o (Vof x.A.fs) : Int) := ⟨_, rfl⟩
  rw [← hs1] at HP HR
  clear hs1
  have e1 : (s1 == s1) = true := by simp
  obtain ⟨p, hp'⟩ : ∃ p, p = x.p := ⟨_, rfl⟩
  obtain ⟨q, hq'⟩ : ∃ q, q = x.q := ⟨_, rfl⟩
  obtain ⟨r, hr'⟩ : ∃ r, r = x.r := ⟨_, rfl⟩
  rw [← hp'] at HP x0 hwb ⊢
  rw [← hr'] at HR x2 hwb ⊢
  rw [← hq'] at hwb ⊢
  clear hA hp hq hr hPb hp' hq' hr'
  unfold Fits at ha hb
  show Calls Tryz.prog 19 #[.pointer (some ⟨W, 0, none⟩), .agg #[.pointer (some ⟨p, 0, none⟩), .pointer (some ⟨q, 0, none⟩), .pointer (some ⟨r, 0, none⟩)], .agg #[.int .i64 11, .int .i64 m, .int .i64 a, .int .i64 b, .int .i64 c, l, v]] w _
  unfold boxed opC ptr at hwb
  go_enter Tryz.func19, Tryz.ntmps19
  go_wp2_with fail
  rw [← hwb]
  clear hwb
  refine HP.out.mono ?_
  rintro e w1 ⟨rfl, hk1⟩
  have y2 := hk1.cell x2 (by simp)
  have z2 := hk1.cell o2 (by simp)
  have z3 := hk1.cell o3 (by simp)
  go_wp2_with fail
  refine (HR.out _ hk1).mono ?_
  rintro e w2 ⟨rfl, hk2⟩
  go_wp2_with fail
  go_ret
  exact ⟨rfl, (hkb.trans hk1).trans hk2⟩

set_option maxRecDepth 100000 in
set_option maxHeartbeats 1000000 in
theorem asks0 {p q r : Nat} {k m a b c : Int} {l v : Value} (hk : k ≤ 7) :
    Calls Tryz.prog 19 #[ptr W, .agg #[ptr p, ptr q, ptr r], opV k m a b c l v] w fun e w' => e = .returned (.bool true) ∧ Keeps [] w w' := by
  have e8 : (k == 8) = false := by simp; omega
  have e9 : (k == 9) = false := by simp; omega
  have e10 : (k == 10) = false := by simp; omega
  have e11 : (k == 11) = false := by simp; omega
  have e15 : (k == 15) = false := by simp; omega
  have e16 : (k == 16) = false := by simp; omega
  have e17 : (k == 17) = false := by simp; omega
  have hkb := boxed_keeps w p q r k m a b c l v
  unfold boxed opC ptr at hkb
  clear hk
  show Calls Tryz.prog 19 #[.pointer (some ⟨W, 0, none⟩), .agg #[.pointer (some ⟨p, 0, none⟩), .pointer (some ⟨q, 0, none⟩), .pointer (some ⟨r, 0, none⟩)], .agg #[.int .i64 k, .int .i64 m, .int .i64 a, .int .i64 b, .int .i64 c, l, v]] w _
  go_enter Tryz.func19, Tryz.ntmps19
  go_wp2_with fail
  go_ret
  exact ⟨rfl, hkb⟩
end

end Go.Proofs.YtmgjegokkbghlaaGreat

namespace Go.Proofs.YtmgjegokkbghlaaGreat
open Go.RowKit Go.Maps Bdd
set_option linter.unusedVariables false
attribute [local go_sem ↓] Go.wp_at_zero Go.wp_at_succ

theorem listB {n : Nat} {f : Nat → Bool} {i : Nat} (hi : i < n) : ((List.range n).map f).getD i false = f i := by simp [hi]
theorem listB_len (n : Nat) (f : Nat → Bool) : ((List.range n).map f).length = n := by simp

set_option maxRecDepth 100000 in
set_option maxHeartbeats 4000000 in
theorem asks9 {w0 w : World} {own : Own} {W K i : Nat} {ps : List Pr} {hs : List Nat} {x : Pr} (hW : WAt w0 w own W ps hs K) (hK : K ≤ 4000000000000) (hx : ps[i]? = some x) {m a b c : Int} {l : Value} {va : Option Addr} {vn vc : Nat} {f : Nat → Bool} (ha : Fits a) (hvn : vn ≤ 140737488351232) (hv0 : TruthsIn w0 va vn f) :
    Calls Tryz.prog 19 #[ptr W, .agg #[ptr x.p, ptr x.q, ptr x.r], opV 9 m a b c l (.slice va vn vc)] w fun e w' => e = .returned (.bool true) ∧ (∃ own' h, WAt w0 w' own' W ps (hs ++ [h]) (K + 1)) ∧ Free own w w' := by
  have HW : Hid (WAt w0 w own W ps hs K) := hW
  obtain ⟨hA, _, hp, hq, hr⟩ := hW.prs i x trivial hx
  obtain ⟨wb, hwb⟩ : ∃ wb, wb = boxed w x.p x.q x.r 9 m a b c l (.slice va vn vc) := ⟨_, rfl⟩
  have hkb : Keeps [] w wb := by rw [hwb]; exact boxed_keeps ..
  have x0 : wb.cell? ⟨w.heap.size, 0, none⟩ = some (.pointer (some ⟨x.p, 0, none⟩)) := by rw [hwb]; exact boxed_pair _ _ _ _ _ _ _ _ _ _ _ 0 _ rfl
  have x2 : wb.cell? ⟨w.heap.size, 2, none⟩ = some (.pointer (some ⟨x.r, 0, none⟩)) := by rw [hwb]; exact boxed_pair _ _ _ _ _ _ _ _ _ _ _ 2 _ rfl
  have o0 : wb.cell? ⟨w.heap.size + 1, 0, none⟩ = some (.int .i64 9) := by rw [hwb]; exact boxed_op _ _ _ _ _ _ _ _ _ _ _ 0 _ rfl
  have o2 : wb.cell? ⟨w.heap.size + 1, 2, none⟩ = some (.int .i64 a) := by rw [hwb]; exact boxed_op _ _ _ _ _ _ _ _ _ _ _ 2 _ rfl
  have o6 : wb.cell? ⟨w.heap.size + 1, 6, none⟩ = some (.slice va vn vc) := by rw [hwb]; exact boxed_op _ _ _ _ _ _ _ _ _ _ _ 6 _ rfl
  have lb1 : w.heap.size + 1 < wb.heap.size := cell_lt o0
  have hv : TruthsIn w va vn f := hv0.keeps hW.low
  have hPb := hp.keeps hkb (own' := own) (fun _ _ e => e)
  -- the calls
  have HL : Hid (∀ w1, Keeps [] w w1 → Calls Tryz.prog 50 #[.slice va vn vc] w1 fun e w' => ∃ g, e = .returned (.slice (some ⟨g, 0, none⟩) (vn + 8) (vn + 8)) ∧ w'.ownsRow w1.heap.size 4 1 (.slice (some ⟨g, 0, none⟩) (vn + 8) (vn + 8)) (vn + 8) (rowB (vn + 8) (lentF vn f)) ∧ Keeps [] w1 w') := fun w1 hk => lentTruths_any hvn (hv.keeps hk)
  have HP : Hid (∀ (w1 : World) (g cap : Nat), Keeps [] w w1 → (∀ i, i < vn → w1.cell? ⟨g, i, none⟩ = some (.bool (f i))) → Calls Tryz.prog 51 #[.pointer (some ⟨x.p, 0, none⟩), .int .i64 a, .slice (some ⟨g, 0, none⟩) vn cap] w1 fun e w' => e = .returned (.tuple #[.bool (valueOf x.A a ((List.range vn).map f)).1, .int .i64 (valueOf x.A a ((List.range vn).map f)).2]) ∧ Keeps [] w1 w') := fun w1 g cap hk hc => by
    have := ps_value (cap := cap) (vb := g) (v := (List.range vn).map f) (hp.keeps hk (own' := own) (fun _ _ e => e)) ha (fun i hi => by rw [listB_len] at hi; rw [listB hi]; exact hc i hi)
    rw [listB_len] at this
    exact this
  have HR : Hid (∀ (w1 : World) (own1 : Own), RW w1 own1 (4, i) x.r x.A → TruthsIn w1 va vn f → Calls Tryz.prog 54 #[.pointer (some ⟨x.r, 0, none⟩), .int .i64 a, .slice va vn vc] w1 fun e w2 => e = .returned (.tuple #[.bool (valueOf x.A a ((List.range vn).map f)).1, .int .i64 (valueOf x.A a ((List.range vn).map f)).2]) ∧ w1 = w2) := fun w1 own1 hrw ht => by
    have := rs_value (p := va) (cap := vc) (v := (List.range vn).map f) hPb hA hrw a (by
      rcases ht with h0 | ⟨vb, vo, e, hc⟩
      · exact Or.inl (by rw [listB_len]; exact h0)
      · exact Or.inr ⟨vb, vo, e, fun i hi => by rw [listB_len] at hi; rw [listB hi]; exact hc i hi⟩)
    rw [listB_len] at this
    exact this
  have HKT : Hid (∀ (w1 : World) (g : Nat), Keeps [] w w1 → w1.ownsRow wb.heap.size 4 1 (.slice (some ⟨g, 0, none⟩) (vn + 8) (vn + 8)) (vn + 8) (rowB (vn + 8) (lentF vn f)) → Calls Tryz.prog 53 #[.pointer (some ⟨W, 0, none⟩), .slice (some ⟨g, 0, none⟩) (vn + 8) (vn + 8)] w1 fun e w' => e = .returned (.tuple #[]) ∧ (∃ own' h, WAt w0 w' own' W ps (hs ++ [h]) (K + 1)) ∧ ∀ (p : Addr) (u : Value), p.block < wb.heap.size → newOwn own w (0, 0) p.block ≠ (1, 0) → w1.cell? p = some u → w'.cell? p = some u) := fun w1 g hk hown => by
    refine Calls.mono (keepTruths_any (own := newOwn own w (0, 0)) (hW.keeps hk (fun b tg hb _ e => by rw [newOwn_old hb]; exact e)) (by omega) hown (by have := (hown.lt g rfl).2; have := (hown.lt g rfl).1; omega) (by omega) (fun g' e => newOwn_new (by have h1 := (hown.lt g' e).1; have h2 := hkb.size; omega))) ?_
    rintro e w' ⟨rfl, own', h, h1, h2, _, _⟩
    refine ⟨rfl, ⟨own', h, h1⟩, fun p u n2 n1 hc => h2 p u n1 (fun e => ?_) hc⟩
    have := (hown.lt _ e).1
    omega
  obtain ⟨s1, hs1⟩ : ∃ s1, s1 = (valueOf x.A a ((List.range vn).map f)).1 := ⟨_, rfl⟩
  obtain ⟨s2, hs2⟩ : ∃ s2, s2 = (valueOf x.A a ((List.range vn).map f)).2 := ⟨_, rfl⟩
  rw [← hs1, ← hs2] at HP HR
  clear hs1 hs2
  have e1 : (s1 == s1) = true := by simp
  have e2 : (s2 == s2) = true := by simp
  have HX : Hid (ps[i]? = some x) := hx
  obtain ⟨p, hp'⟩ : ∃ p, p = x.p := ⟨_, rfl⟩
  obtain ⟨q, hq'⟩ : ∃ q, q = x.q := ⟨_, rfl⟩
  obtain ⟨r, hr'⟩ : ∃ r, r = x.r := ⟨_, rfl⟩
  have HRE : Hid (r = x.r) := hr'
  rw [← hp'] at HP x0 hwb ⊢
  rw [← hr'] at x2 hwb ⊢
  rw [← hq'] at hwb ⊢
  have HV0 : Hid (TruthsIn w0 va vn f) := hv0
  have hvn' : (vn : Int) ≤ 140737488351232 := by omega
  have hvn0 : (0 : Int) ≤ (vn : Int) := by omega
  have hvn8 : (vn : Int) ≤ ((vn + 8 : Nat) : Int) := by omega
  have hvn9 : (vn : Int) ≤ (vn : Int) + 8 := by omega
  clear hA hp hq hr hPb hp' hq' hr' hW hx hv hv0
  unfold Fits at ha
  show Calls Tryz.prog 19 #[.pointer (some ⟨W, 0, none⟩), .agg #[.pointer (some ⟨p, 0, none⟩), .pointer (some ⟨q, 0, none⟩), .pointer (some ⟨r, 0, none⟩)], .agg #[.int .i64 9, .int .i64 m, .int .i64 a, .int .i64 b, .int .i64 c, l, .slice va vn vc]] w _
  unfold boxed opC ptr at hwb
  go_enter Tryz.func19, Tryz.ntmps19
  go_wp2_with fail
  rw [← hwb]
  clear hwb
  refine (HL.out _ hkb).mono ?_
  rintro e w1 ⟨g, rfl, hown1, hk1⟩
  have y0 := hk1.cell x0 (by simp)
  have z2 := hk1.cell o2 (by simp)
  have z6 := hk1.cell o6 (by simp)
  have hkw1 := hkb.trans hk1
  have hcell1 : ∀ i, i < vn → w1.cell? ⟨g, i, none⟩ = some (.bool (f i)) := fun i hi => by
    rw [World.ownsRow.cellAt hown1 i (by omega), rowB_get _ (by omega)]
    simp [lentF, hi]
  have HO1 : Hid (w1.ownsRow wb.heap.size 4 1 (.slice (some ⟨g, 0, none⟩) (vn + 8) (vn + 8)) (vn + 8) (rowB (vn + 8) (lentF vn f))) := hown1
  have HC1 : Hid (∀ i, i < vn → w1.cell? ⟨g, i, none⟩ = some (.bool (f i))) := hcell1
  clear hown1 hcell1
  have hvcap : vn ≤ vn + 8 := by omega
  go_wp2_with fail
  go_region_held3 (fun w' => w'.cell? ⟨w.heap.size, 0, none⟩ = some (.pointer (some ⟨p, 0, none⟩)) ∧ w'.cell? ⟨w.heap.size + 1, 2, none⟩ = some (.int .i64 a) ∧ w'.cell? ⟨w.heap.size + 1, 6, none⟩ = some (.slice va vn vc))
    (first | exact ⟨y0, z2, z6⟩ | exact ⟨hk2.cell y0 (by simp), hk2.cell z2 (by simp), hk2.cell z6 (by simp)⟩ | assumption)
    (first
      | (go_at_call 51; refine (HP.out w1.drew g _ hkw1.drew (fun i hi => HC1.out i hi)).mono ?_; rintro e w2 ⟨rfl, hk2⟩))
  have hk2' : Keeps [] w1 w2 := ((Keeps.refl [] w1).drew).trans hk2
  have HO2 : Hid (w2.ownsRow wb.heap.size 4 1 (.slice (some ⟨g, 0, none⟩) (vn + 8) (vn + 8)) (vn + 8) (rowB (vn + 8) (lentF vn f))) := row_keeps HO1.out hk2' (by simp)
  have y6 := hk2'.cell z6 (by simp)
  have y2 := hk2'.cell z2 (by simp)
  have yx2 := hk2'.cell (hk1.cell x2 (by simp)) (by simp)
  have hkw2 := hkw1.trans hk2'
  clear HO1 HC1 hk2
  go_wp2_with fail
  refine (HL.out _ hkw2).mono ?_
  rintro e w3 ⟨g3, rfl, hown3, hk3⟩
  have HO3 : Hid (w3.ownsRow wb.heap.size 4 1 (.slice (some ⟨g, 0, none⟩) (vn + 8) (vn + 8)) (vn + 8) (rowB (vn + 8) (lentF vn f))) := row_keeps HO2.out hk3 (by simp)
  have HS : Hid (Calls Tryz.prog 52 #[.slice (some ⟨g, 0, none⟩) (vn + 8) (vn + 8), .slice (some ⟨g3, 0, none⟩) (vn + 8) (vn + 8)] w3 fun e w' => e = .returned (.bool true) ∧ Keeps [] w3 w') := sameTruths_any (f := lentF vn f) (by omega) (fun i hi => by rw [World.ownsRow.cellAt HO3.out i (by omega), rowB_get _ hi]) (fun i hi => by rw [World.ownsRow.cellAt hown3 i (by omega), rowB_get _ hi])
  clear hown3
  go_wp2_with fail
  refine HS.out.mono ?_
  rintro e w4 ⟨rfl, hk4⟩
  have hk34 := hk3.trans hk4
  have HO4 : Hid (w4.ownsRow wb.heap.size 4 1 (.slice (some ⟨g, 0, none⟩) (vn + 8) (vn + 8)) (vn + 8) (rowB (vn + 8) (lentF vn f))) := row_keeps HO3.out hk4 (by simp)
  have t2 := hk34.cell yx2 (by simp)
  have t6 := hk34.cell y6 (by simp)
  have ta := hk34.cell y2 (by simp)
  go_wp2_with fail
  refine (HKT.out w4 g (hkw2.trans hk34) HO4.out).mono ?_
  rintro e w5 ⟨rfl, ⟨own5, h5, hW5⟩, hcs⟩
  have n0 : newOwn own w (0, 0) w.heap.size ≠ (1, 0) := by rw [newOwn_new (Nat.le_refl _)]; simp
  have n1 : newOwn own w (0, 0) (w.heap.size + 1) ≠ (1, 0) := by rw [newOwn_new (by omega)]; simp
  have u2 := hcs _ _ (by show w.heap.size < _; omega) n0 t2
  have u6 := hcs _ _ lb1 n1 t6
  have ua := hcs _ _ lb1 n1 ta
  have hkw4 := hkw2.trans hk34
  have HFR : Hid (Free own w w5) := fun p u h0 hc => hcs p u (by have h1 := cell_lt hc; have h2 := hkb.size; omega) (by rw [newOwn_old (cell_lt hc), h0]; simp) (hkw4.cell hc (by simp))
  have HRC : Hid (Calls Tryz.prog 54 #[.pointer (some ⟨r, 0, none⟩), .int .i64 a, .slice va vn vc] w5 fun e w2 => e = .returned (.tuple #[.bool s1, .int .i64 s2]) ∧ w5 = w2) := by
    show Calls Tryz.prog 54 #[.pointer (some ⟨r, 0, none⟩), .int .i64 a, .slice va vn vc] w5 _
    rw [HRE.out]
    exact HR.out w5 own5 (hW5.prs i x trivial HX.out).2.2.2.2 (HV0.out.keeps hW5.low)
  have HW5 : Hid (WAt w0 w5 own5 W ps (hs ++ [h5]) (K + 1)) := hW5
  clear hW5 hcs
  go_wp2_with fail
  refine HRC.out.mono ?_
  rintro e w6 ⟨rfl, rfl⟩
  go_wp2_with fail
  go_ret
  exact ⟨rfl, ⟨own5, h5, HW5.out⟩, HFR.out⟩

end Go.Proofs.YtmgjegokkbghlaaGreat
