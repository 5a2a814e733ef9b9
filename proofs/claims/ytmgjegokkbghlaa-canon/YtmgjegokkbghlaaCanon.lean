/- Canon. -/
import Derived.Test.YtmgjegokkbghlaaCombined
import Derived.Laws.StructEq
namespace Go.Proofs.Ytmgjegokkbghlaa
open Go.RowKit Go.Maps Bdd
attribute [local go_sem ↓] Go.wp_at_zero Go.wp_at_succ

/-- two tables are the same -/
def all16 (f g : Nat → Bool) : Bool := (List.range 16).all fun i => f i == g i
theorem all16_iff (f g : Nat → Bool) : all16 f g = true ↔ ∀ i, i < 16 → f i = g i := by simp [all16]
/-- a table's cells -/
def tA (f : Nat → Bool) : Array Value := ((List.range 16).map fun i => Value.bool (f i)).toArray
theorem tA_get (f : Nat → Bool) {i : Nat} (hi : i < 16) : (tA f)[i]? = some (.bool (f i)) := by simp [tA, hi]

theorem run_eql32 (w : World) (f g : Nat → Bool) : (binOp .eql 29 (.agg (tA f)) (.agg (tA g))).run Try.prog w = .ok (.bool (all16 f g)) w := by
  have hq : (Try.prog.info? 4).map (·.size) = some 1 := by kernel_rfl
  have hsz : ∀ w, (Go.sizeOf 4).run Try.prog w = .ok 1 w := fun w => by
    cases h : Try.prog.info? 4 with
    | none => rw [h] at hq; cases hq
    | some i =>
      rw [h] at hq
      have : i.size = 1 := by simpa using hq
      simp [Go.sizeOf, typeInfo, h, this]
  have h : (Op.equalIn 10000 29 (.agg (tA f)) (.agg (tA g))).run Try.prog w = .ok (all16 f g) w := by
    rw [all16, List.range_eq_range', Op.equalIn]
    simp only [Sem.run_bind, run_underlying Try.underlying29, Result.andThen_ok, hsz, Std.Legacy.Range.forIn_eq_forIn_range', Std.Legacy.Range.size, Nat.sub_zero, Nat.add_sub_cancel, Nat.div_one]
    have hl : ∀ i ∈ List.range' 0 16 1, i < 16 := fun i hi => by simpa using (List.mem_range'_1.1 hi).2
    generalize List.range' 0 16 1 = l at hl ⊢
    induction l with
    | nil => simp
    | cons i l ih =>
      have hi : i < 16 := hl i (by simp)
      have px : ∀ f : Nat → Bool, (Go.part 4 (tA f) (i * 1)).run Try.prog w = .ok (.bool (f i)) w := by
        intro f
        simp [Go.part, isAgg, run_underlying Try.underlying4, tA_get f hi]
      have pe : (Op.equalIn 9999 4 (.bool (f i)) (.bool (g i))).run Try.prog w = .ok (f i == g i) w := run_equalIn_bool w 9998 4 _ _ Try.underlying4
      simp only [List.forIn_cons, Sem.run_bind, px, pe, Result.andThen_ok, List.all_cons]
      cases hb : (f i == g i)
      · simp
      · simp only [Bool.not_true, Bool.false_eq_true, if_false, Sem.run_pure, Result.andThen_ok, Bool.true_and]
        exact ih fun j hj => hl j (by simp [hj])
  rw [run_eql_struct, h]
  rfl

theorem agree16 {F G : Fun} (hF : ∀ a b, (∀ i, 0 ≤ i → i < 4 → a i = b i) → F a = F b) (hG : ∀ a b, (∀ i, 0 ≤ i → i < 4 → a i = b i) → G a = G b) (h : ∀ i, i < 16 → F (asg i) = G (asg i)) : ∀ a, F a = G a := by
  intro a
  have key : ∀ i : Int, 0 ≤ i → i < 4 → a i = asg (8 * (a 0).toNat + 4 * (a 1).toNat + 2 * (a 2).toNat + (a 3).toNat) i := by
    intro i h0 h1
    have : i = 0 ∨ i = 1 ∨ i = 2 ∨ i = 3 := by omega
    rcases this with rfl | rfl | rfl | rfl <;> generalize a 0 = b0 <;> generalize a 1 = b1 <;> generalize a 2 = b2 <;> generalize a 3 = b3 <;> cases b0 <;> cases b1 <;> cases b2 <;> cases b3 <;> rfl
  rw [hF _ _ key, hG _ _ key]
  apply h
  have := (a 0).toNat_le; have := (a 1).toNat_le; have := (a 2).toNat_le; have := (a 3).toNat_le
  omega

theorem load32 {w : World} {B : Nat} {m : Md} (h : Full w B m) : (Instr.loadAt 29 (.pointer (some ⟨B, 1, none⟩))).run Try.prog w = .ok (.agg (tA m.2)) w := by
  refine run_loadAt_mid w B 1 29 ((List.range 16).map fun i => Value.bool (m.2 i)) _ ?_ Try.underlying29 rfl (by kernel_rfl)
  intro j v hv
  have hj : j < 16 := by have := (List.getElem?_eq_some_iff.1 hv).1; simpa using this
  rw [h.2 j hj]
  simp [hj] at hv
  rw [hv]

theorem wpList_load32 {ops : Array Oper} {rest : List Oper} {op : Oper} {a : Act} {w : World} {Q : Exit → Act → World → Prop} (hw : Region.wanted op (yielded ops a.tmps) = true) (x : Operand) (ho : op.op = .load 29 x)
    (B : Nat) (m : Md) (hx : a.eval x = .pointer (some ⟨B, 1, none⟩)) (hF : Full w B m) (h : wpList Try.prog ops Q rest (a.put op.dst (.agg (tA m.2))) w) : wpList Try.prog ops Q (op :: rest) a w :=
  wpList_step fun _ hK => by
    rw [if_pos hw]
    unfold Oper.wp execOp
    simp only [ho, hx, Sem.run_bind, load32 hF, Sem.run_pure, Result.andThen_ok]
    exact hK _ _ h
theorem eqg32 (w : World) (x y : Operand) (f g : Array Value) : (eqGuard .eql 29 x y (.agg f) (.agg g)).run Try.prog w = .ok () w := by
  have h : Try.prog.eqGuardType Try.prog.depth 29 = false := by kernel_rfl
  simp [eqGuard, Sem.run_bind, h]
theorem wpList_eql32 {ops : Array Oper} {rest : List Oper} {op : Oper} {a : Act} {w : World} {Q : Exit → Act → World → Prop} (hw : Region.wanted op (yielded ops a.tmps) = true) (x y : Operand) (ho : op.op = .binOp .eql 29 x y 29)
    (f g : Nat → Bool) (hx : a.eval x = .agg (tA f)) (hy : a.eval y = .agg (tA g)) (h : wpList Try.prog ops Q rest (a.put op.dst (.bool (all16 f g))) w) : wpList Try.prog ops Q (op :: rest) a w :=
  wpList_step fun _ hK => by
    rw [if_pos hw]
    unfold Oper.wp execOp
    simp only [ho, hx, hy, Sem.run_bind, eqg32, run_eql32, Sem.run_pure, Result.andThen_ok]
    exact hK _ _ h

set_option maxRecDepth 100000 in
set_option maxHeartbeats 4000000 in
theorem canon_walk {w : World} {a0 : Option Addr} {len cap : Nat} {zs : Nat → Int} {first second : Int} (hw1 : Fits first) (hw2 : Fits second) (hcode : len = 0 ∨ ∃ cb co, a0 = some ⟨cb, co, none⟩ ∧ IntsAt w cb co len zs) :
    Calls Try.prog 4 #[.slice a0 len cap, .int .i64 first, .int .i64 second] w fun e w' => e = .returned (.bool true) ∧ Keeps [] w w' := by
  have q27 : ∀ (w : World) (a : Option Addr) (n c n' c' : Nat), (binOp .eql 24 (.slice a n c) (.slice none n' c')).run Try.prog w = .ok (.bool a.isNone) w := fun w a n c n' c' => Lib.run_eql_slice_nil w _ _ a n c n' c' Try.underlying24
  go_enter Try.func4, Try.ntmps4
  go_wp2_with fail
  refine begun_any.mono ?_
  rintro e w1 ⟨s, hb, t, bn, bm, od, sz, v, ms, V, rfl, hod, hS, hG, hml, hown, hsep, hk, j1, j2, j3, j4, j5, j6⟩
  clear hod
  go_wp2_with fail
  refine (grown_all hS hG hml hown hsep hk (by simp; omega) hcode).mono ?_
  clear hS hG hml hown hsep hk
  rintro e w2 ⟨n, g, cap2, ms2, V2, sz2, rfl, h4, h28, hS, hG, hml, hown, hk⟩
  clear hcode
  have hnz : (4 : Int) ≤ (n : Int) := by omega
  have hn28 : (n : Int) ≤ 28 := by omega
  have HG : Hid (Good V2 ms2) := hG
  have Hm : Hid (ms2.length = n) := hml
  clear hG hml
  go_wp2_with fail
  refine (pick_any hw1 (by omega) (by omega)).mono ?_
  rintro e w3 ⟨⟨c, rfl, hc0, hc1⟩, rfl⟩
  obtain ⟨kf, rfl⟩ := Int.eq_ofNat_of_zero_le hc0
  have lf : kf < n := by omega
  obtain ⟨m, hm⟩ : ∃ m, m = ms2[kf]'(by rw [Hm.out]; exact lf) := ⟨_, rfl⟩
  have rf : w2.rangeAt g (kf * 17) (mL m) := by rw [hm]; exact range_of hown Hm.out kf _
  obtain ⟨em, F, hV, hF, _⟩ := HG.out kf (by rw [Hm.out]; exact lf)
  rw [← hm] at em hF
  rw [← em] at hV
  have HV : Hid (V2 m.1 = some F) := hV
  have HF : Hid (∀ i, i < 16 → F (asg i) = m.2 i) := hF
  have Hem : Hid (m.1 = (kf : Int) + 1) := em
  clear hm em hV hF
  obtain ⟨W1, hW1⟩ : ∃ W1, W1 = w2.alloc (.cells (mA m.1 m.2) 31) := ⟨_, rfl⟩
  have y1 : Keeps [] w2 W1 := by rw [hW1]; exact (Keeps.refl _ _).alloc _
  have hF1 : Full W1 w2.heap.size m := by rw [hW1]; exact full_start _ _
  have H1 : Hid (W1 = w2.alloc (.cells (mA m.1 m.2) 31)) := hW1
  clear hW1
  go_wp2_with (first
    | (refine wpList_load_mid rfl 31 _ rfl g (kf * 17) rfl _ _ rf Try.underlying31 rfl size34 ?_)
    | (refine wpList_store_mid rfl 31 _ _ rfl w2.heap.size 0 (mA m.1 m.2) rfl rfl (there34 w2 zA 17 (by decide)) size34 (one34 _ _) ?_; rw [store34, ← H1.out])
    | fail)
  have ownW1 : W1.ownsRow w.heap.size 31 17 (.slice (some ⟨g, 0, none⟩) n cap2) n (flat ms2) := ownsRow_keeps hown y1 (by simp)
  have lB : w2.heap.size < W1.heap.size := by rw [H1.out]; simp
  have ls : ∀ i ∈ [s, hb, t, bn, bm, od.blk], i < w2.heap.size := hS.lts
  have ls0 : ∀ i ∈ [s, hb, t, bn, bm, od.blk], w.heap.size ≤ i := by simp; omega
  generalize w2.heap.size = B1 at *
  refine (pick_any hw2 (by omega) (by omega)).mono ?_
  rintro e w3 ⟨⟨c, rfl, hc0', hc1'⟩, rfl⟩
  obtain ⟨kg, rfl⟩ := Int.eq_ofNat_of_zero_le hc0'
  have lg : kg < n := by omega
  obtain ⟨m', hm⟩ : ∃ m, m = ms2[kg]'(by rw [Hm.out]; exact lg) := ⟨_, rfl⟩
  have rg : W1.rangeAt g (kg * 17) (mL m') := by rw [hm]; exact range_of ownW1 Hm.out kg _
  obtain ⟨em, G, hV, hF, _⟩ := HG.out kg (by rw [Hm.out]; exact lg)
  rw [← hm] at em hF
  rw [← em] at hV
  have HV' : Hid (V2 m'.1 = some G) := hV
  have HF' : Hid (∀ i, i < 16 → G (asg i) = m'.2 i) := hF
  have Hem' : Hid (m'.1 = (kg : Int) + 1) := em
  clear hm em hV hF
  obtain ⟨W2, hW2⟩ : ∃ W2, W2 = W1.alloc (.cells (mA m'.1 m'.2) 31) := ⟨_, rfl⟩
  have y2 : Keeps [] W1 W2 := by rw [hW2]; exact (Keeps.refl _ _).alloc _
  have hF2 : Full W2 W1.heap.size m' := by rw [hW2]; exact full_start _ _
  have H2 : Hid (W2 = W1.alloc (.cells (mA m'.1 m'.2) 31)) := hW2
  clear hW2
  have z1 : Full W2 B1 m := hF1.keeps y2 (by simp)
  have c1 := z1.1
  have c2 := hF2.1
  have HQ : Hid ((∀ a, F a = G a) ↔ all16 m.2 m'.2 = true) := by
    show (∀ a, F a = G a) ↔ all16 m.2 m'.2 = true
    rw [all16_iff]
    constructor
    · intro h i hi; rw [← HF.out i hi, ← HF'.out i hi]; exact h _
    · intro h
      exact agree16 (fun a b hab => hS.dep HV.out a b (fun i h0 h1 => hab i h0 (by simpa using h1))) (fun a b hab => hS.dep HV'.out a b (fun i h0 h1 => hab i h0 (by simpa using h1))) (fun i hi => by rw [HF.out i hi, HF'.out i hi]; exact h i hi)
  go_wp2_with (first
    | (refine wpList_load_mid rfl 31 _ rfl g (kg * 17) rfl _ _ rg Try.underlying31 rfl size34 ?_)
    | (refine wpList_store_mid rfl 31 _ _ rfl W1.heap.size 0 (mA m'.1 m'.2) rfl rfl (there34 W1 zA 17 (by decide)) size34 (one34 _ _) ?_; rw [store34, ← H2.out])
    | fail)
  generalize W1.heap.size = B2 at *
  have hS2 := hS.keeps (y1.trans y2)
  refine (same_any hS2 HV.out HV'.out).mono ?_
  rintro e w3 ⟨b, rfl, hb0, hk3⟩
  have eb : b = all16 m.2 m'.2 := by
    have := hb0.trans HQ.out
    cases b <;> cases h : all16 m.2 m'.2 <;> simp [h] at this ⊢
  subst eb
  clear hb0
  have hS3 := hS2.keeps hk3
  have z3 : Full w3 B1 m := z1.keeps hk3 (by simp)
  have z4 : Full w3 B2 m' := hF2.keeps hk3 (by simp)
  have d1 := z3.1
  have d2 := z4.1
  have hxx : (all16 m.2 m'.2 == all16 m.2 m'.2) = true := by simp
  clear c1 c2
  go_wp2_with (first
    | (refine wpList_load32 rfl _ rfl B1 m rfl z3 ?_)
    | (refine wpList_load32 rfl _ rfl B2 m' rfl z4 ?_)
    | (refine wpList_eql32 rfl _ _ rfl m.2 m'.2 rfl rfl ?_)
    | fail)
  have nB1 : B1 ∉ [s, hb, t, bn, bm, od.blk] := fun hin => by have := ls B1 hin; omega
  have nB2 : B2 ∉ [s, hb, t, bn, bm, od.blk] := fun hin => by have := ls B2 hin; omega
  clear ls d1 d2
  refine (release_any hS3 HV.out).mono ?_
  rintro e w4 ⟨rfl, ⟨sz4, hS4⟩, hk40⟩
  have hk4 := hk40.six od.blk
  clear hk40
  have z5 : Full w4 B1 m := z3.keeps hk4 nB1
  have z6 : Full w4 B2 m' := z4.keeps hk4 nB2
  have kk : Keeps [] w w4 := ((((hk.trans y1).trans y2).trans hk3).mono (by simp) |>.trans hk4).strike (fun i hi hlt => by have := ls0 i hi; omega)
  have d1 := z5.1
  have fm : Fits m.1 := by rw [Hem.out]; unfold Fits; omega
  have no : Hid (delV V2 m.1 m.1 = none) := by show (if m.1 = m.1 then none else V2 m.1) = none; simp
  go_wp2_with fail
  refine (release_bad hS4 fm no.out).mono ?_
  rintro e w5 ⟨rfl, hk5⟩
  have hS5 := hS4.keeps hk5
  have z7 : Full w5 B1 m := z5.keeps hk5 (by simp)
  have z8 : Full w5 B2 m' := z6.keeps hk5 (by simp)
  clear d1
  have d1 := z7.1
  have d2 := z8.1
  by_cases same : m.1 = m'.1
  · rw [same] at d1 no fm hS5
    go_wp2_with fail
    refine (count_bad hS5 fm no.out).mono ?_
    rintro e w6 ⟨rfl, hk6⟩
    go_wp2_with fail
    go_ret
    exact ⟨rfl, (kk.trans hk5).trans hk6⟩
  · have HV5 : Hid (delV V2 m.1 m'.1 = some G) := by show (if m'.1 = m.1 then none else V2 m'.1) = some G; rw [if_neg (fun h => same h.symm)]; exact HV'.out
    have hr5 := full_range z8
    have nsame : (m.1 == m'.1) = false := by simpa using same
    go_wp2_with (first
      | (refine wpList_load_mid rfl 31 _ rfl B2 0 rfl (mL m') _ hr5 Try.underlying31 rfl size34 ?_)
      | (go_at_call 13; refine (values_any hS5 HV5.out m'.2 HF'.out).mono ?_; rintro e w6 ⟨rfl, hk6⟩)
      | fail)
    go_ret
    exact ⟨rfl, (kk.trans hk5).trans hk6⟩

end Go.Proofs.Ytmgjegokkbghlaa
