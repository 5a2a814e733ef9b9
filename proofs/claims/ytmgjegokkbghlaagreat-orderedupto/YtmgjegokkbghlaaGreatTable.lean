/- The walks of Keep, Choose, Not, Variable, Len, NewTable, Value, count, Count. -/
import Derived.Test.YtmgjegokkbghlaaGreatKeep
namespace Go.Proofs.YtmgjegokkbghlaaGreat
open Go.RowKit Go.Maps Bdd

set_option maxRecDepth 100000 in
set_option maxHeartbeats 400000 in
theorem keepTab_any {w : World} {t bs ns bn bm sz : Nat} {K : Int → Bool} {N : Tab} {top last : Int} (hT : TabAt w t bn bm sz N top last) (hs : MapIs w Tryz.prog 95 bs ns (setV K)) (hne1 : bs ≠ bn) (hne2 : bs ≠ bm) (hcl : Closed N K) :
    Calls Tryz.prog 92 #[.pointer (some ⟨t, 0, none⟩), .map (some bs)] w fun e w' => ∃ sz', e = .returned (.tuple #[]) ∧ TabAt w' t bn bm sz' (keep N K) top last ∧ Keeps [bn, bm] w w' ∧ sz' ≤ ns := by
  have hk : Keeps [] w ((w.alloc (.cells #[.pointer (some ⟨t, 0, none⟩)] 53)).alloc (.cells #[.map (some bs)] 119)) := ((Keeps.refl _ _).alloc _).alloc _
  have hT' := hT.grow hk
  have c1 := hT'.c1
  have hl : t < w.heap.size := cell_lt (p := ⟨t, 0, none⟩) hT.c0
  have hmf : ∀ (fn : Fn) (first cap : Array Value) (w : World), (Instr.makeFunc fn first cap).run Tryz.prog w = .ok (.func fn first cap) w := fun _ _ _ _ => rfl
  go_enter Tryz.func92, Tryz.ntmps92
  go_wp2_with fail
  refine (deleteFunc_any hT' (hs.keeps hk (by simp)) hne1 hne2 (by simp) (by simp)).mono ?_
  rintro e w1 ⟨sz', rfl, h1, h2, h3⟩
  go_wp2_with fail
  go_end0
  have hkw : Keeps [bn, bm] w w1 := (hk.mono (by simp)).trans h3
  have q3 : t ∉ [bn, bm] := by simp; exact ⟨hT.names.ne_cell hT.c0, hT.nodes.ne_cell hT.c0⟩
  refine ⟨sz', rfl, ⟨hT.wf.keep hcl, hkw.cell hT.c0 q3, hkw.cell hT.c1 q3, hkw.cell hT.c2 q3, (hkw.frozen (p := ⟨t, 2, none⟩) hl q3).trans hT.f2, h1, h2, hT.ne, hT.big⟩, hkw, ?_⟩
  refine h2.size_le hs lawFn (fun key hkey => ?_)
  unfold nodesG at hkey
  split at hkey
  · rename_i f
    cases hK : K f with
    | false => simp [keep, hK] at hkey
    | true => simp [setV, hK]
  · cases hkey

set_option maxRecDepth 100000 in
set_option maxHeartbeats 400000 in
theorem tchoose_any {w : World} {t bn bm sz : Nat} {N : Tab} {top last : Int} (hT : TabAt w t bn bm sz N top last) {f g h : Int} (hf : Ok N 0 f) (hg : Ok N 0 g) (hh : Ok N 0 h) (hb1 : last + 256 ≤ 4611686018427387904) (hb2 : sz + 256 < maxLen) :
    Calls Tryz.prog 76 #[.pointer (some ⟨t, 0, none⟩), .int .i64 f, .int .i64 g, .int .i64 h] w fun e w' => ∃ r N' last' sz', e = .returned (.int .i64 r) ∧ TabAt w' t bn bm sz' N' top last' ∧ Sub N N' ∧ Ok N' 0 r ∧
    (∀ a, E N' r a = if E N f a then E N g a else E N h a) ∧ last ≤ last' ∧ last' ≤ last + 256 ∧ sz' ≤ sz + 256 ∧ Keeps [t, bn, bm] w w' := by
  have hmm := @run_makeMap Tryz.prog
  have hk : Keeps [] w (w.alloc (.map #[] 0)) := (Keeps.refl _ _).alloc _
  have hl : t < w.heap.size := cell_lt (p := ⟨t, 0, none⟩) hT.c0
  have l2 := hT.names.lt
  have l3 := hT.nodes.lt
  have hp : pw 8 = 256 := by decide
  have ht8 := hT.wf.tops
  have hml : 256 < maxLen := by decide
  go_enter Tryz.func76, Tryz.ntmps76
  go_wp2_with fail
  refine (ChooseSaid.at (choose_any 8) 0 f g h (hT.grow hk) (MapIs.made w Tryz.prog 136) (DoneOk.none N) (by omega) (by omega) (by omega) (by omega) hf hg hh (by rw [hp]; omega) (by rw [hp]; omega) (by rw [hp]; omega)).mono ?_
  rintro e w1 ⟨r, N', last', sz', n', G', rfl, h1, h2, h3, h4, h5, h6, h7, h8, h9, h10, h11⟩
  rw [hp] at h8 h9
  go_wp2_with fail
  go_ret
  refine ⟨r, N', last', sz', rfl, h1, h4, h5, h6, h7, by omega, by omega, ?_⟩
  exact ((hk.mono (by simp)).trans h11).strike (by simp)

theorem tnot_any {w : World} {t bn bm sz : Nat} {N : Tab} {top last : Int} (hT : TabAt w t bn bm sz N top last) {f : Int} (hf : Ok N 0 f) (hb1 : last + 256 ≤ 4611686018427387904) (hb2 : sz + 256 < maxLen) :
    Calls Tryz.prog 72 #[.pointer (some ⟨t, 0, none⟩), .int .i64 f] w fun e w' => ∃ r N' last' sz', e = .returned (.int .i64 r) ∧ TabAt w' t bn bm sz' N' top last' ∧ Sub N N' ∧ Ok N' 0 r ∧
    (∀ a, E N' r a = !E N f a) ∧ last ≤ last' ∧ last' ≤ last + 256 ∧ sz' ≤ sz + 256 ∧ Keeps [t, bn, bm] w w' := by
  go_enter Tryz.func72, Tryz.ntmps72
  go_wp2_with fail
  refine (tchoose_any hT hf (ok_zero _) (ok_one _) hb1 hb2).mono ?_
  rintro e w1 ⟨r, N', last', sz', rfl, h1, h2, h3, h4, h5, h6, h7, h8⟩
  go_wp2_with fail
  go_ret
  refine ⟨r, N', last', sz', rfl, h1, h2, h3, fun a => ?_, h5, h6, h7, h8⟩
  rw [h4, E_zero hT.wf, E_one hT.wf]
  cases E N f a <;> rfl

theorem tvariable_any {w : World} {t bn bm sz : Nat} {N : Tab} {top last : Int} (hT : TabAt w t bn bm sz N top last) {i : Int} (h0 : 0 ≤ i) (h1 : i < top) (hb1 : last + 1 ≤ 4611686018427387904) (hb2 : sz + 1 < maxLen) :
    Calls Tryz.prog 69 #[.pointer (some ⟨t, 0, none⟩), .int .i64 i] w fun e w' => ∃ r N' last' sz', e = .returned (.int .i64 r) ∧ TabAt w' t bn bm sz' N' top last' ∧ Sub N N' ∧ Ok N' 0 r ∧
    (∀ a, E N' r a = a i) ∧ last ≤ last' ∧ last' ≤ last + 1 ∧ sz' ≤ sz + 1 ∧ Keeps [t, bn, bm] w w' := by
  go_enter Tryz.func69, Tryz.ntmps69
  go_wp2_with fail
  refine (join_at hT i 0 1 h0 h1 (ok_zero _) (ok_one _) hb1 hb2).mono ?_
  rintro e w1 ⟨r, N', last', sz', rfl, h1, h2, h3, h4, h5, h6, h7, h8⟩
  go_wp2_with fail
  go_ret
  refine ⟨r, N', last', sz', rfl, h1, h2, h3.mono h0, fun a => ?_, h5, h6, h7, h8⟩
  rw [h4, E_zero hT.wf, E_one hT.wf]
  cases a i <;> rfl

set_option maxRecDepth 100000 in
theorem len_any {w : World} {t bn bm sz : Nat} {N : Tab} {top last : Int} (hT : TabAt w t bn bm sz N top last) :
    Calls Tryz.prog 95 #[.pointer (some ⟨t, 0, none⟩)] w fun e w' => e = .returned (.int .i64 sz) ∧ w = w' := by
  have c0 := hT.c0
  have hrun := fun ty => hT.names.len Tryz.underlying93 ty
  go_enter Tryz.func95, Tryz.ntmps95
  go_wp2_with fail
  go_ret
  exact ⟨rfl, rfl⟩

/-- a list of truth values in memory -/
def Truths (w : World) (vb vo : Nat) (L : Nat) (a : Int → Bool) : Prop := ∀ i : Nat, i < L → w.cell? ⟨vb, vo + i, none⟩ = some (.bool (a i))

set_option maxRecDepth 100000 in
set_option maxHeartbeats 1000000 in
theorem tvalue_any {w : World} {t bn bm sz vb vo L cap : Nat} {N : Tab} {last : Int} {a : Int → Bool} (hT : TabAt w t bn bm sz N (L : Int) last) {f : Int} (hf : Ok N 0 f) (hv : Truths w vb vo L a) :
    Calls Tryz.prog 102 #[.pointer (some ⟨t, 0, none⟩), .int .i64 f, .slice (some ⟨vb, vo, none⟩) L cap] w fun e w' => e = .returned (.bool (E N f a)) ∧ Keeps [] w w' := by
  have hL := hT.wf.tops
  go_enter Tryz.func102, Tryz.ntmps102
  go_wp2_with fail
  go_loopw [1] (fun v wr => ∃ g, v = .int .i64 g ∧ Ok N 0 g ∧ E N g a = E N f a ∧ Keeps [] w wr) (fun v _ => (9 - lvl N (intOf v)).toNat)
  case atStart => exact ⟨f, rfl, hf, rfl, Keeps.refl _ _⟩
  case round =>
    obtain ⟨g, rfl, hg, hE, hk⟩ := hrel
    by_cases h0 : g = 0
    · subst h0
      go_wp2_with fail
      go_ret
      exact ⟨by rw [← hE, E_zero hT.wf]; rfl, hk⟩
    · by_cases h1 : g = 1
      · subst h1
        go_wp2_with fail
        go_ret
        exact ⟨by rw [← hE, E_one hT.wf]; rfl, hk⟩
      · obtain ⟨n, hn⟩ : ∃ n, N g = some n := by
          rcases hg with e | e | ⟨n, hn, _⟩
          · exact absurd e h0
          · exact absurd e h1
          · exact ⟨n, hn⟩
        have hT' := hT.grow hk
        have c1 := hT'.c1
        have e0 : (g != 0) = true := by simp [h0]
        have e1 : (g != 1) = true := by simp [h1]
        have hlv := hT.wf.lv g n hn
        have hrun := (hT'.nodes.look lawFn Tryz.underlying94 (zeroNode _) (keyFn (hT.fits hg))).2
        have hG : nodesG N (.int .i64 g) = some (nodeV n) := by simp [nodesG, hn]
        rw [hG] at hrun
        simp only [Option.getD_some, nodeV, trip] at hrun
        obtain ⟨j, hj⟩ := Int.eq_ofNat_of_zero_le hlv.1
        have hjL : j < L := by omega
        have hcell := hk.cell (hv j hjL) (by simp)
        have hvl : vb < wr.heap.size := cell_lt (p := ⟨vb, vo + j, none⟩) hcell
        have hjL' : (j : Int) < (L : Int) := by omega
        have hj0 : (0 : Int) ≤ (j : Int) := by omega
        have HE2 : Hid (E N g a = if a j then E N n.hi a else E N n.lo a) := by rw [← hj]; exact E_node hT.wf hn a
        have Hlo : Hid (Ok N (j + 1) n.lo ∧ Ok N (j + 1) n.hi) := by rw [← hj]; exact ⟨hT.wf.lo g n hn, hT.wf.hi g n hn⟩
        have Hm : Hid (lvl N g = j) := by simp only [lvl, hn, Hid]; exact hj
        have HE : Hid (E N g a = E N f a) := hE
        rw [hj] at hrun
        clear hG hn hj hlv hE h0 h1
        cases ha : a j with
        | true =>
          rw [ha] at hcell
          have HA : Hid (a j = true) := ha
          clear ha
          go_wp2_with fail
          go_roundw
          case rel => exact ⟨n.hi, rfl, Hlo.out.2.mono (by omega), by rw [← HE.out, HE2.out, HA.out]; rfl, hk.alloc _⟩
          case measure =>
            have := lvl_ge hT.wf Hlo.out.2 (by omega)
            have := Hm.out
            simp [intOf]; omega
        | false =>
          rw [ha] at hcell
          have HA : Hid (a j = false) := ha
          clear ha
          go_wp2_with fail
          go_roundw
          case rel => exact ⟨n.lo, rfl, Hlo.out.1.mono (by omega), by rw [← HE.out, HE2.out, HA.out]; rfl, hk.alloc _⟩
          case measure =>
            have := lvl_ge hT.wf Hlo.out.1 (by omega)
            have := Hm.out
            simp [intOf]; omega

end Go.Proofs.YtmgjegokkbghlaaGreat
