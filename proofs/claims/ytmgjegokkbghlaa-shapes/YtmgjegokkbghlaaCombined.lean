/- Combined. -/
import Derived.Test.YtmgjegokkbghlaaGrown
import Derived.Test.YtmgjegokkbghlaaSix
import Derived.OpenShut
namespace Go.Proofs.Ytmgjegokkbghlaa
open Go.RowKit Go.Maps Bdd
attribute [local go_sem ↓] Go.wp_at_zero Go.wp_at_succ

theorem St.dep {w : World} {s hb t bn bm L nh sz : Nat} {od : Ord L} {lim given lb : Int} {V : Int → Option Fun} (h : St w s hb t bn bm od nh sz lim given V lb) {x : Int} {F : Fun} (hV : V x = some F) : ∀ a b, (∀ i, 0 ≤ i → i < (L : Int) → a i = b i) → F a = F b := by
  obtain ⟨N, last, H, hst, _, k2, _⟩ := h
  obtain ⟨f0, e0, rfl⟩ := St.has k2 hV
  intro a b hab
  exact E_lev hst.tab.wf (hst.ok x f0 e0) (fun k k0 k1 => hab _ (od.r1 k k0 k1).1 (od.r1 k k0 k1).2.1)

def cntTo (tt : Nat → Bool) : Nat → Nat
  | 0 => 0
  | k + 1 => cntTo tt k + if tt k then 1 else 0
theorem cntTo_le (tt : Nat → Bool) : ∀ k, cntTo tt k ≤ k
  | 0 => Nat.le_refl _
  | k + 1 => by have := cntTo_le tt k; simp only [cntTo]; split <;> omega

theorem set4 (b0 b1 b2 b3 : Bool) : ∀ i : Int, 0 ≤ i → i < 4 → setAt (setAt (setAt (setAt (fun _ => false) 0 b0) (0 + 1) b1) (0 + 1 + 1) b2) (0 + 1 + 1 + 1) b3 i = asg (8 * b0.toNat + 4 * b1.toNat + 2 * b2.toNat + b3.toNat) i := by
  intro i h0 h1
  have : i = 0 ∨ i = 1 ∨ i = 2 ∨ i = 3 := by omega
  rcases this with rfl | rfl | rfl | rfl <;> cases b0 <;> cases b1 <;> cases b2 <;> cases b3 <;> rfl
theorem cnt16 {F : Fun} (hdep : ∀ a b, (∀ i, 0 ≤ i → i < 4 → a i = b i) → F a = F b) {tt : Nat → Bool} (h : ∀ i, i < 16 → F (asg i) = tt i) : cnt F 4 0 (fun _ => false) = cntTo tt 16 := by
  have key : ∀ b0 b1 b2 b3 : Bool, F (setAt (setAt (setAt (setAt (fun _ => false) 0 b0) (0 + 1) b1) (0 + 1 + 1) b2) (0 + 1 + 1 + 1) b3) = tt (8 * b0.toNat + 4 * b1.toNat + 2 * b2.toNat + b3.toNat) := by
    intro b0 b1 b2 b3
    rw [hdep _ _ (set4 b0 b1 b2 b3)]
    apply h
    cases b0 <;> cases b1 <;> cases b2 <;> cases b3 <;> decide
  simp only [cnt, key, cntTo, Bool.toNat_false, Bool.toNat_true, Nat.mul_zero, Nat.mul_one, Nat.zero_add, Nat.add_zero, Nat.reduceAdd]
  omega

set_option maxRecDepth 100000 in
set_option maxHeartbeats 1000000 in
theorem grown_empty {w : World} {s : Nat} {v : Value} {a0 : Option Addr} {ccap : Nat} :
    Calls Try.prog 10 #[.pointer (some ⟨s, 0, none⟩), v, .slice a0 0 ccap] w fun e w' => e = .returned v ∧ w = w' := by
  go_enter Try.func10, Try.ntmps10
  go_wp2_with fail
  refine wp_loop_rounds 1 ?_
  rw [rounds_succ]
  go_wp2_with fail
  go_ret
  exact ⟨rfl, rfl⟩

/-- what grown comes to -/
def Grown1 (W0 : World) (s hb t bn bm : Nat) (od : Ord 4) (e : Ending) (w' : World) : Prop := ∃ n g cap ms V sz, e = .returned (.slice (some ⟨g, 0, none⟩) n cap) ∧ 4 ≤ n ∧ n ≤ 28 ∧ St w' s hb t bn bm od n sz 2000 n V (500000 + 100000 * n) ∧ Good V ms ∧ ms.length = n ∧ w'.ownsRow W0.heap.size 31 17 (.slice (some ⟨g, 0, none⟩) n cap) n (flat ms) ∧ Keeps [] W0 w'

theorem owns_form {w : World} {base n : Nat} {v : Value} {xs : List Value} (h : w.ownsRow base 31 17 v n xs) (hn : 0 < n) : ∃ g cap, v = .slice (some ⟨g, 0, none⟩) n cap := by
  rcases h.2 with ⟨_, h0⟩ | ⟨g, cap, cur, hv, _⟩
  · omega
  · exact ⟨g, cap, hv⟩

theorem grown_all {W0 w : World} {s hb t bn bm sz : Nat} {od : Ord 4} {V : Int → Option Fun} {ms : List Md} {v : Value} {a0 : Option Addr} {len cap : Nat} {zs : Nat → Int} (hS : St w s hb t bn bm od 4 sz 2000 4 V 500000) (hG : Good V ms) (hml : ms.length = 4) (hown : w.ownsRow W0.heap.size 31 17 v 4 (flat ms)) (hsep : ∀ g, v.ownBlock = some g → g ∉ [s, hb, t, bn, bm, od.blk])
    (hW0 : Keeps [] W0 w) (hs0 : ∀ i ∈ [s, hb, t, bn, bm, od.blk], W0.heap.size ≤ i) (hcode : len = 0 ∨ ∃ cb co, a0 = some ⟨cb, co, none⟩ ∧ IntsAt W0 cb co len zs) :
    Calls Try.prog 10 #[.pointer (some ⟨s, 0, none⟩), v, .slice a0 len cap] w fun e w' => Grown1 W0 s hb t bn bm od e w' := by
  rcases hcode with rfl | ⟨cb, co, rfl, hc⟩
  · refine grown_empty.mono ?_
    rintro e w' ⟨rfl, rfl⟩
    obtain ⟨g, cap', hv⟩ := owns_form hown (by omega)
    subst hv
    refine ⟨4, g, cap', ms, V, sz, rfl, by omega, by omega, ?_, hG, hml, hown, hW0⟩
    obtain ⟨N, last, H, z1, z2, z3, z4, z5, z6, z7⟩ := hS
    exact ⟨N, last, H, z1, z2, z3, by omega, z5, z6, z7⟩
  · refine (grown_any hS hG hml hown hsep hW0 hs0 hc).mono ?_
    rintro e w' ⟨n, v', ms', V', sz', rfl, h4, h28, hS', hG', hml', hown', _, hk'⟩
    obtain ⟨g, cap', hv⟩ := owns_form hown' (by omega)
    subst hv
    exact ⟨n, g, cap', ms', V', sz', rfl, h4, h28, hS', hG', hml', hown', hk'⟩

theorem full_range {w : World} {B : Nat} {m : Md} (h : Full w B m) : w.rangeAt B 0 (mL m) := by
  intro j v hv
  have hj : j < 17 := by have := (List.getElem?_eq_some_iff.1 hv).1; simpa using this
  by_cases e : j = 0
  · subst e; simp at hv; subst hv; simpa using h.1
  · obtain ⟨i, rfl⟩ : ∃ i, j = 1 + i := ⟨j - 1, by omega⟩
    rw [Nat.zero_add, h.2 i (by omega)]
    have h2 := mA_get m.1 m.2 i (by omega)
    rw [← h2]
    simpa using hv

set_option maxRecDepth 100000 in
set_option maxHeartbeats 4000000 in
theorem combined_walk {w : World} {a0 : Option Addr} {len cap : Nat} {zs : Nat → Int} {which : Int} (hw : Fits which) (hcode : len = 0 ∨ ∃ cb co, a0 = some ⟨cb, co, none⟩ ∧ IntsAt w cb co len zs) :
    Calls Try.prog 3 #[.slice a0 len cap, .int .i64 which] w fun e w' => e = .returned (.bool true) ∧ Keeps [] w w' := by
  have q27 : ∀ (w : World) (a : Option Addr) (n c n' c' : Nat), (binOp .eql 24 (.slice a n c) (.slice none n' c')).run Try.prog w = .ok (.bool a.isNone) w := fun w a n c n' c' => Lib.run_eql_slice_nil w _ _ a n c n' c' Try.underlying24
  go_enter Try.func3, Try.ntmps3
  go_wp2_with fail
  refine begun_any.mono ?_
  rintro e w1 ⟨s, hb, t, bn, bm, od, sz, v, ms, V, rfl, hod, hS, hG, hml, hown, hsep, hk, j1, j2, j3, j4, j5, j6⟩
  clear hod
  go_wp2_with fail
  refine (grown_all hS hG hml hown hsep hk (by simp; omega) hcode).mono ?_
  clear hS hG hml hown hsep hk
  rintro e w2 ⟨n, g, cap2, ms2, V2, sz2, rfl, h4, h28, hS, hG, hml, hown, hk⟩
  clear hcode
  have hnz : (4 : Int) ≤ (n : Int) := by omega
  have hn28 : (n : Int) ≤ 28 := by omega
  have HG : Hid (Good V2 ms2) := hG
  have Hm : Hid (ms2.length = n) := hml
  have hcells : ∀ j, j < n → w2.cell? ⟨g, j * 17, none⟩ = some (.int .i64 ((j : Int) + 1)) := by
    intro j hj
    have hr := range_of hown hml j (by rw [hml]; exact hj) 0 (.int .i64 ms2[j].1) rfl
    rw [(hG j (by rw [hml]; exact hj)).1] at hr
    exact hr
  clear hG hml
  go_wp2_with fail
  go_loopw [7] (fun x wr => ∃ i : Nat, i ≤ n ∧ x = .int .i64 i ∧ wr = w2) (fun x _ => n - (intOf x).toNat)
  case atStart => exact ⟨0, by omega, rfl, rfl⟩
  case round =>
    obtain ⟨i, hi, rfl, rfl⟩ := hrel
    by_cases hlt : i < n
    · have hi0 : (0 : Int) ≤ (i : Int) := by omega
      have hi1 : (i : Int) < (n : Int) := by omega
      have hc := hcells i hlt
      clear hcells
      go_wp2_with fail
      go_roundw
      case rel => exact ⟨i + 1, by omega, by go_num, trivial⟩
      case measure => simp [intOf]; omega
    · have e : i = n := by omega
      subst e
      clear hcells
      go_wp2_with fail
      refine (pick_any hw (by omega) (by omega)).mono ?_
      rintro e w3 ⟨⟨c, rfl, hc0, hc1⟩, rfl⟩
      obtain ⟨kf, rfl⟩ := Int.eq_ofNat_of_zero_le hc0
      have lf : kf < i := by omega
      obtain ⟨m, hm⟩ : ∃ m, m = ms2[kf]'(by rw [Hm.out]; exact lf) := ⟨_, rfl⟩
      have rf : wr.rangeAt g (kf * 17) (mL m) := by rw [hm]; exact range_of hown Hm.out kf _
      obtain ⟨em, F, hV, hF, _⟩ := HG.out kf (by rw [Hm.out]; exact lf)
      rw [← hm] at em hF
      rw [← em] at hV
      have HV : Hid (V2 m.1 = some F) := hV
      have HF : Hid (∀ i, i < 16 → F (asg i) = m.2 i) := hF
      have HC : Hid (cnt F 4 0 (fun _ => false) = cntTo m.2 16) := cnt16 (fun a b hab => hS.dep hV a b (fun i h0 h1 => hab i h0 (by simpa using h1))) hF
      obtain ⟨W1, hW1⟩ : ∃ W1, W1 = wr.alloc (.cells (mA m.1 m.2) 31) := ⟨_, rfl⟩
      have y1 : Keeps [] wr W1 := by rw [hW1]; exact (Keeps.refl _ _).alloc _
      have hF1 : Full W1 wr.heap.size m := by rw [hW1]; exact full_start _ _
      have H1 : Hid (W1 = wr.alloc (.cells (mA m.1 m.2) 31)) := hW1
      clear hW1 hm em hV hF
      go_upto_region 13 with (first
        | (refine wpList_load_mid rfl 31 _ rfl g (kf * 17) rfl _ _ rf Try.underlying31 rfl size34 ?_)
        | (refine wpList_store_mid rfl 31 _ _ rfl wr.heap.size 0 (mA m.1 m.2) rfl rfl (there34 wr zA 17 (by decide)) size34 (one34 _ _) ?_; rw [store34, ← H1.out])
        | fail)
      go_frame
      generalize hB : wr.heap.size = B at *
      clear hB
      have v1 := hF1.1
      go_wp2_with fail
      go_loopw [9, 10] (fun x y wq => ∃ k : Nat, k ≤ 16 ∧ y = .int .i64 k ∧ x = .int .i64 (cntTo m.2 k) ∧ wq = W1) (fun _ y _ => 16 - (intOf y).toNat)
      case atStart => exact ⟨0, by omega, rfl, rfl, rfl⟩
      case round =>
        obtain ⟨k, hk16, rfl, rfl, rfl⟩ := hrel
        have hle := cntTo_le m.2 k
        by_cases hltk : k < 16
        · have hk0 : (0 : Int) ≤ (k : Int) := by omega
          have hk1 : (k : Int) < 16 := by omega
          have hck := hF1.2 k hltk
          cases hmk : m.2 k with
          | true =>
            rw [hmk] at hck
            have HS : Hid (cntTo m.2 (k + 1) = cntTo m.2 k + 1) := by show cntTo m.2 k + (if m.2 k then 1 else 0) = _; rw [hmk]; rfl
            clear hmk
            go_wp2_with fail
            go_roundw
            case rel => exact ⟨k + 1, by omega, by go_num, by rw [HS.out]; go_num, trivial⟩
            case measure => simp [intOf]; omega
          | false =>
            rw [hmk] at hck
            have HS : Hid (cntTo m.2 (k + 1) = cntTo m.2 k) := by show cntTo m.2 k + (if m.2 k then 1 else 0) = _; rw [hmk]; rfl
            clear hmk
            go_wp2_with fail
            go_roundw
            case rel => exact ⟨k + 1, by omega, by go_num, by rw [HS.out], trivial⟩
            case measure => simp [intOf]; omega
        · have e : k = 16 := by omega
          subst e
          have hSw := hS.keeps y1
          have hle16 := cntTo_le m.2 16
          go_wp2_with fail
          refine (countc_any hSw HV.out).mono ?_
          rintro e w5 ⟨rfl, hk5⟩
          rw [HC.out]
          have hr5 := full_range (hF1.keeps hk5 (by simp))
          obtain ⟨x, hx⟩ : ∃ x, x = cntTo m.2 16 := ⟨_, rfl⟩
          rw [← hx]
          clear hx
          have hxx : ((x : Int) == (x : Int)) = true := by simp
          go_wp2_with (first
            | (refine wpList_load_mid rfl 31 _ rfl B 0 rfl (mL m) _ hr5 Try.underlying31 rfl size34 ?_)
            | (go_at_call 13; refine (values_any (hSw.keeps hk5) HV.out m.2 HF.out).mono ?_; rintro e w6 ⟨rfl, hk6⟩)
            | fail)
          go_ret
          exact ⟨rfl, ((hk.trans y1).trans hk5).trans hk6⟩

end Go.Proofs.Ytmgjegokkbghlaa
