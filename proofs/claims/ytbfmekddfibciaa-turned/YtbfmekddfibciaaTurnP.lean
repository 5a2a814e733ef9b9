/- Order, Reorder of a store. -/
import Derived.Test.YtbfmekddfibciaaTurnO
import Derived.ArgAppend
import Derived.OpenShut
namespace Go.Proofs.Ytbfmekddfibciaa
open Go.RowKit Go.Maps Bdd
attribute [local go_sem ↓] Go.wp_at_zero Go.wp_at_succ

def listV (c : Int → Int) (L : Nat) : List Value := (List.range L).map fun k : Nat => .int .i64 (c (k : Int))
theorem infoInt2 : (Try.prog.info? 3).map (fun i => (i.zero, i.size, i.bytes)) = some (some (.int .i64 0), 1, 8) := by kernel_rfl

set_option maxRecDepth 100000 in
set_option maxHeartbeats 1000000 in
theorem clone_any {w : World} {b L cap : Nat} {c : Int → Int} (hl : NumsIn w b 0 L c) (hL0 : 0 < L) (hL8 : L ≤ 8) :
    Calls Try.prog 62 #[.slice (some ⟨b, 0, none⟩) L cap] w fun e w' => ∃ g cp, e = .returned (.slice (some ⟨g, 0, none⟩) L cp) ∧ w.heap.size ≤ g ∧ g < w'.heap.size ∧ NumsIn w' g 0 L c ∧ Keeps [] w w' := by
  obtain ⟨i0, hi, hz0, hz1, hz2⟩ := info_parts infoInt2
  have hml : 100 < maxLen := by decide
  have hnl : (listV c L).length = L := by simp [listV]
  have hcl : ∀ j u, (listV c L)[j]? = some u → w.cell? ((⟨b, 0, none⟩ : Addr).add j) = some u := by
    intro j u hj
    have hjl : j < L := by have := (List.getElem?_eq_some_iff.1 hj).1; rw [hnl] at this; exact this
    rw [Addr.add_mid, hl j hjl]
    simp [listV, hjl] at hj
    rw [hj]
  have h1c : ∀ u ∈ listV c L, u.oneCell' = true := by
    intro u hu
    obtain ⟨k, _, rfl⟩ := List.mem_map.1 hu
    rfl
  have HNL : Hid ((listV c L).length = L * 1) := by show _ = _; rw [hnl, Nat.mul_one]
  have HCL : Hid (∀ j u, (listV c L)[j]? = some u → w.cell? ((⟨b, 0, none⟩ : Addr).add j) = some u) := hcl
  have hLi : (0 : Int) < (L : Int) := by omega
  clear hnl hcl hl
  have q22 : ∀ (w : World) (a : Option Addr) (n c n' c' : Nat), (binOp .eql 22 (.slice a n c) (.slice none n' c')).run Try.prog w = .ok (.bool a.isNone) w := fun w a n c n' c' => Lib.run_eql_slice_nil w _ _ a n c n' c' Try.underlying22
  go_enter Try.func62, Try.ntmps62
  go_wp2_with (first
    | (at_builtin; refine wpList_append_grows _ rfl _ _ 22 rfl 3 i0 (.int .i64 0) 1 8 Try.underlying22 hi hz0 hz1 hz2 rfl (by decide) (some ⟨w.heap.size, 0, none⟩) 0 0 [] rfl (by simp) (by simp) (by simp) ⟨b, 0, none⟩ L cap (listV c L) rfl HNL.out (fun j u hj => (((Keeps.refl [] w).alloc _).cell (HCL.out j u hj) (by simp))) h1c (by omega) (by omega) (by omega) ?_; intro v' w2 hown hgrow)
    | fail)
  obtain ⟨g, cp, hv, hg⟩ : ∃ g cp, v' = .slice (some ⟨g, 0, none⟩) L cp ∧ w.heap.size ≤ g := by
    rcases hown.2 with ⟨_, h0⟩ | ⟨g, cp, cur, hv, hb, _⟩
    · omega
    · exact ⟨g, cp, by rw [hv, Nat.zero_add], by simp at hb; omega⟩
  subst hv
  go_ret
  have hown' := hown
  simp only [Nat.zero_add, List.nil_append] at hown'
  refine ⟨g, cp, rfl, hg, (hown.lt g rfl).2, fun k hk => ?_, ((Keeps.refl _ _).alloc _).grown hgrow (by simp)⟩
  rw [Nat.zero_add, hown'.cellAt k (by omega)]
  simp [listV, hk]

theorem order_any {w : World} {s hb t bn bm blk L nh sz : Nat} {lim given lb : Int} {V : Int → Option Fun} {c : Int → Int} (h : StO w s hb t bn bm blk L nh lim given V lb c sz) :
    Calls Try.prog 31 #[.pointer (some ⟨s, 0, none⟩)] w fun e w' => ∃ g cp, e = .returned (.slice (some ⟨g, 0, none⟩) L cp) ∧ w.heap.size ≤ g ∧ g < w'.heap.size ∧ NumsIn w' g 0 L c ∧ Keeps [] w w' := by
  obtain ⟨hL8, hL0, ⟨cap, c2⟩, _, hord, _, _⟩ := order_o h
  have hl : NumsIn w blk 0 L c := fun k hk => by rw [Nat.zero_add]; exact hord k hk
  have hcall := clone_any (cap := cap) hl hL0 hL8
  clear hord hl h
  go_enter Try.func31, Try.ntmps31
  go_wp2_with fail
  refine hcall.mono ?_
  rintro e w1 ⟨g, cp, rfl, hg, hg2, hn, hk⟩
  go_wp2_with fail
  go_ret
  exact ⟨g, cp, rfl, hg, hg2, hn, hk⟩

set_option maxRecDepth 100000 in
set_option maxHeartbeats 1000000 in
theorem reorder_ok {w : World} {s hb t bn bm blk L nh sz b o cap : Nat} {lim given lb : Int} {V : Int → Option Fun} {c d : Int → Int} (h : StO w s hb t bn bm blk L nh lim given V lb c sz) (hd : IsOrd L d) (hsur : ∀ k, 0 ≤ k → k < (L : Int) → ∃ j : Nat, j < L ∧ d (j : Int) = k) (hl : NumsIn w b o L d) (hbS : b ∉ [t, bn, bm, blk]) (hroom : ((nh * (pw L - 1) : Nat) : Int) ≤ lim) (hlb : lb + 4000000 ≤ 4611686018427387904) :
    Calls Try.prog 30 #[.pointer (some ⟨s, 0, none⟩), .slice (some ⟨b, o, none⟩) L cap] w fun e w' => e = .returned (.int .i64 0) ∧ (∃ sz', StO w' s hb t bn bm blk L nh lim given V (lb + 4000000) d sz') ∧ Keeps [t, bn, bm, blk] w w' := by
  have hord := h.inj
  have hc1 := isOrder_any (cap := cap) h hl
  have HS : Hid (StO w s hb t bn bm blk L nh lim given V lb c sz) := h
  have HD : Hid (IsOrd L d) := hd
  have HL : Hid (NumsIn w b o L d) := hl
  have HSU : Hid (∀ k, 0 ≤ k → k < (L : Int) → ∃ j : Nat, j < L ∧ d (j : Int) = k) := hsur
  have HO : Hid (IsOrd L c) := hord
  clear h hd hl hsur hord
  go_enter Try.func30, Try.ntmps30
  go_wp2_with fail
  refine hc1.mono ?_
  rintro e w1 ⟨r, rfl, hr, hk1⟩
  have hrt : r = true := hr.2 (fun k k0 k1 => by obtain ⟨a, b⟩ := HO.out.range k k0 k1; exact HSU.out _ a b)
  subst hrt
  clear hr hc1
  have hS1 := HS.out.keeps hk1
  have hc2 := order_any hS1
  have HS1 : Hid (StO w1 s hb t bn bm blk L nh lim given V lb c sz) := hS1
  clear hS1
  go_wp2_with fail
  refine hc2.mono ?_
  rintro e w2 ⟨g, cp, rfl, hg, hg2, hng, hk2⟩
  have hS2 := HS1.out.keeps hk2
  have hc3 := arrange_any (cap := cap) hS2 HD.out ((HL.out.keeps hk1 (by simp)).keeps hk2 (by simp)) hbS hlb
  clear hc2 hS2 hng
  go_wp2_with fail
  refine hc3.mono ?_
  rintro e w3 ⟨rfl, ⟨sz3, hS3⟩, hk3⟩
  obtain ⟨d4, hlen⟩ := len_o hS3
  obtain ⟨_, _, _, d0, _, _, _⟩ := order_o hS3
  have HLEN : Hid (∀ w', Keeps [] w3 w' → Calls Try.prog 59 #[.pointer (some ⟨t, 0, none⟩)] w' fun e w'' => e = .returned (.int .i64 (sz3 : Int)) ∧ w' = w'') := hlen
  have hsz3 : (sz3 : Int) ≤ lim := by
    obtain ⟨od, ⟨N, last, H, hst, k1, k2, k3, k4, k5, k6⟩, _⟩ := hS3
    omega
  have HS3 : Hid (StO w3 s hb t bn bm blk L nh lim given V (lb + 4000000) d sz3) := hS3
  clear hc3 hS3 hlen
  go_wp2_with fail
  go_region_held3 (fun w' => w'.cell? ⟨s, 4, none⟩ = some (.pointer (some ⟨t, 0, none⟩)) ∧ w'.cell? ⟨s, 0, none⟩ = some (.int .i64 lim))
    (first | exact ⟨d4, d0⟩ | assumption)
    (first
      | (go_at_call 59; refine (HLEN.out _ ((Keeps.refl [] w3).drew)).mono ?_; rintro e w4 ⟨rfl, rfl⟩))
  go_wp2_with fail
  go_ret
  exact ⟨rfl, ⟨sz3, HS3.out.keeps ((Keeps.refl _ _).drew)⟩, (((hk1.trans hk2).mono (by simp)).trans hk3).drew⟩

end Go.Proofs.Ytbfmekddfibciaa
