/- The walks of Keep, its closure, and maps.DeleteFunc there. -/
import Derived.Test.YtmgjegokkbghlaaGreatGather
namespace Go.Proofs.YtmgjegokkbghlaaGreat
open Go.RowKit Go.Maps Bdd
open Go.WideElems (Fit rd rg rd_key rd_val rg_of)

theorem len_of_sub {α : Type} : ∀ (l l' : List α), l.Nodup → (∀ x, x ∈ l → x ∈ l') → l.length ≤ l'.length
  | [], _, _, _ => Nat.zero_le _
  | a :: r, l', hn, hs => by
    classical
    have ha := hs a (by simp)
    obtain ⟨h1, h2⟩ := List.nodup_cons.1 hn
    have := len_of_sub r (l'.erase a) h2 (fun x hx => (List.mem_erase_of_ne (fun e => h1 (by rw [← e]; exact hx))).2 (hs x (by simp [hx])))
    rw [List.length_erase_of_mem ha] at this
    have : 0 < l'.length := List.length_pos_of_mem ha
    simp only [List.length_cons]
    omega

/-- the keys of a reading -/
theorem MapIs.size_le {P : Program} {k : TypeId} {w w' : World} {b b' n n' : Nat} {G G' : Value → Option Value} (h : MapIs w P k b n G) (h' : MapIs w' P k b' n' G') (K : Keyed P k) (hs : ∀ key, (G key).isSome = true → (G' key).isSome = true) : n ≤ n' := by
  obtain ⟨D, hD, e1, hv⟩ := h
  obtain ⟨D', hD', e2, hv'⟩ := h'
  obtain ⟨es', rfl, _, _⟩ := hD'.entries K
  have hD0 := hD
  obtain ⟨es, rfl, hp, _⟩ := hD.entries K
  rw [← e1, ← e2]
  simp only [Maps.size]
  have hsub : ∀ x, x ∈ es.map Prod.fst → x ∈ es'.map Prod.fst := by
    intro x hx
    obtain ⟨p, hpm, rfl⟩ := List.mem_map.1 hx
    -- the key's value
    obtain ⟨es0, clock, _, F, _, hE⟩ := hD0
    have hpm' : p ∈ (es0.toList.map (rg P k tok)).foldr DataW.insert [] := by cases hE; exact hpm
    obtain ⟨y, hy, rfl⟩ := List.mem_map.1 (mem_sorted.1 hpm')
    obtain ⟨z, hz⟩ := F.reads y hy
    have hkey := rd_key hz
    have hrg : (rg P k tok y).1 = z.1 := by rw [rg_of hz]
    have hhas : Maps.has (DataW.map es) z.1 = true := by
      rw [← hrg]
      exact List.any_eq_true.2 ⟨_, hpm, WideAt.sameKey_self (by rw [hrg]; exact K.key hkey)⟩
    have h1 : (G y.key).isSome = true := by rw [← hv _ _ hkey, view_isSome hD]; exact hhas
    have h2 := hs _ h1
    rw [← hv' _ _ hkey, view_isSome hD'] at h2
    obtain ⟨q, hq, hqs⟩ := List.any_eq_true.1 h2
    rw [hrg, ← WideAt.sameKey_eq hqs]
    exact List.mem_map.2 ⟨q, hq, rfl⟩
  have := len_of_sub (es.map Prod.fst) (es'.map Prod.fst) (List.pairwise_map.2 hp) hsub
  simpa using this

def restN (N : Tab) (K : Int → Bool) (left : Value → Bool) : Tab := keep N (fun f => K f || left (.int .i64 f))

theorem keep_congr {N : Tab} {S S' : Int → Bool} (h : ∀ f n, N f = some n → S f = S' f) : keep N S = keep N S' := by
  funext f
  unfold keep
  cases hn : N f with
  | none => simp
  | some n => rw [h f n hn]

theorem namesG_iff {N : Tab} {top last : Int} (hw : Wf N top last) {S : Int → Bool} {f : Int} {n : Nd} (h : keep N S f = some n) : namesG (keep N S) (nodeV n) = some (.int .i64 f) := by
  have hex : ∃ f' n', keep N S f' = some n' ∧ nodeV n = nodeV n' := ⟨f, n, h, rfl⟩
  unfold namesG
  rw [dif_pos hex]
  obtain ⟨n', h1, h2⟩ := hex.choose_spec
  have := nodeV_inj h2
  subst this
  rw [hw.uniq _ f n (keep_some.1 h1).2 (keep_some.1 h).2]

/-- one node is struck -/
theorem names_strike {N : Tab} {top last : Int} (hw : Wf N top last) {S S' : Int → Bool} {x : Int} {n : Nd} (hx : N x = some n) (hS' : S' x = false) (hSS : ∀ f, f ≠ x → S' f = S f) (v : Value) :
    setG (namesG (keep N S)) (nodeV n) none v = namesG (keep N S') v := by
  by_cases e : v = nodeV n
  · subst e
    rw [setG_same]
    refine (namesG_none (fun f hf => ?_)).symm
    obtain ⟨h1, h2⟩ := keep_some.1 hf
    have := hw.uniq f x n h2 hx
    subst this
    rw [hS'] at h1; cases h1
  · rw [setG_other _ _ e]
    by_cases hex : ∃ f m, keep N S f = some m ∧ v = nodeV m
    · obtain ⟨f, m, hm, rfl⟩ := hex
      have hfx : f ≠ x := by
        intro ef; subst ef
        have := (keep_some.1 hm).2
        rw [hx] at this; cases this
        exact e rfl
      have hm' : keep N S' f = some m := keep_some.2 ⟨by rw [hSS f hfx]; exact (keep_some.1 hm).1, (keep_some.1 hm).2⟩
      rw [namesG_iff hw hm, namesG_iff hw hm']
    · have hex' : ¬ ∃ f m, keep N S' f = some m ∧ v = nodeV m := by
        rintro ⟨f, m, hm, rfl⟩
        have hfx : f ≠ x := by
          intro ef; subst ef
          have := (keep_some.1 hm).1
          rw [hS'] at this; cases this
        exact hex ⟨f, m, keep_some.2 ⟨by rw [← hSS f hfx]; exact (keep_some.1 hm).1, (keep_some.1 hm).2⟩, rfl⟩
      unfold namesG
      rw [dif_neg hex, dif_neg hex']
theorem nodes_strike {N : Tab} {S S' : Int → Bool} {x : Int} (hS' : S' x = false) (hSS : ∀ f, f ≠ x → S' f = S f) (v : Value) :
    setG (nodesG (keep N S)) (.int .i64 x) none v = nodesG (keep N S') v := by
  by_cases e : v = .int .i64 x
  · subst e; rw [setG_same]; simp [nodesG, keep, hS']
  · rw [setG_other _ _ e]
    unfold nodesG
    split
    · rename_i f
      have hfx : f ≠ x := fun ef => e (by rw [ef])
      simp [keep, hSS f hfx]
    · rfl

set_option maxRecDepth 100000 in
set_option maxHeartbeats 400000 in
theorem keep1_in {w : World} {bs ns c1 c2 : Nat} {f : Int} {K : Int → Bool} (n : Nd) (hs : MapIs w Tryz.prog 95 bs ns (setV K)) (hc : w.cell? ⟨c1, 0, none⟩ = some (.map (some bs))) (hf : Fits f) (hK : K f = true) :
    Calls Tryz.prog 112 #[.int .i64 f, nodeV n, .pointer (some ⟨c1, 0, none⟩), .pointer (some ⟨c2, 0, none⟩)] w fun e w' => e = .returned (.bool false) ∧ Keeps [] w w' := by
  have hl : c1 < w.heap.size := cell_lt (p := ⟨c1, 0, none⟩) hc
  have hrun2 : ∀ o, (Instr.lookup 119 (.map (some bs)) (.int .i64 f) true).run Tryz.prog (w.alloc o) = .ok (.tuple #[.agg #[], .bool true]) (w.alloc o) := by
    intro o
    have := ((hs.alloc o).look lawFn Tryz.underlying119 (zeroUnit _) (keyFn hf)).1
    have hG2 : setV K (.int .i64 f) = some (.agg #[]) := by simp [setV, hK]
    rw [hG2] at this
    exact this
  clear hK
  unfold nodeV trip
  go_enter Tryz.func112, Tryz.ntmps112
  go_wp2_with fail
  go_ret
  exact ⟨rfl, ((Keeps.refl _ _).alloc _).alloc _⟩

set_option maxRecDepth 100000 in
set_option maxHeartbeats 400000 in
theorem keep1_out {w : World} {t bs ns bn sz c1 c2 : Nat} {f : Int} {K : Int → Bool} {G : Value → Option Value} (n : Nd) (hs : MapIs w Tryz.prog 95 bs ns (setV K)) (hm : MapIs w Tryz.prog 132 bn sz G) (hc : w.cell? ⟨c1, 0, none⟩ = some (.map (some bs))) (hc2 : w.cell? ⟨c2, 0, none⟩ = some (.pointer (some ⟨t, 0, none⟩))) (ht : w.cell? ⟨t, 0, none⟩ = some (.map (some bn)))
    (hf : Fits f) (h1 : Fits n.lv) (h2 : Fits n.lo) (h3 : Fits n.hi) (hK : K f = false) (hG : (G (nodeV n)).isSome = true) :
    Calls Tryz.prog 112 #[.int .i64 f, nodeV n, .pointer (some ⟨c1, 0, none⟩), .pointer (some ⟨c2, 0, none⟩)] w fun e w' => e = .returned (.bool true) ∧ MapIs w' Tryz.prog 132 bn (sz - 1) (setG G (nodeV n) none) ∧ Keeps [bn] w w' := by
  have hl : c1 < w.heap.size := cell_lt (p := ⟨c1, 0, none⟩) hc
  have hl2 : c2 < w.heap.size := cell_lt (p := ⟨c2, 0, none⟩) hc2
  have hl3 : t < w.heap.size := cell_lt (p := ⟨t, 0, none⟩) ht
  have hrun2 : ∀ o, (Instr.lookup 119 (.map (some bs)) (.int .i64 f) true).run Tryz.prog (w.alloc o) = .ok (.tuple #[.agg #[], .bool false]) (w.alloc o) := by
    intro o
    have := ((hs.alloc o).look lawFn Tryz.underlying119 (zeroUnit _) (keyFn hf)).1
    have hG2 : setV K (.int .i64 f) = none := by simp [setV, hK]
    rw [hG2] at this
    exact this
  obtain ⟨kl, hkey⟩ := key130 h1 h2 h3
  obtain ⟨w1, hrun3, hm3, hg3⟩ := (show MapIs ((w.alloc (.cells #[.int .i64 n.lv, .int .i64 n.lo, .int .i64 n.hi] 132)).alloc (.cells #[] 145)).drew Tryz.prog 132 bn sz G from ((hm.alloc _).alloc _).drew).delete lawNode Tryz.underlying93 (key := nodeV n) hkey 0
  rw [if_pos hG] at hm3
  have HG : Hid (MapIs w1 Tryz.prog 132 bn (sz - 1) (setG G (nodeV n) none)) := hm3
  clear hK hkey hG hm3
  unfold nodeV trip at hrun3 ⊢
  go_enter Tryz.func112, Tryz.ntmps112
  go_wp2_with fail
  go_region
  go_wp2
  go_ret
  exact ⟨rfl, HG.out, (((Keeps.refl _ _).alloc _).alloc _).drew.grown hg3 (by simp)⟩

theorem restN_start {N : Tab} (K : Int → Bool) : restN N K (fun x => (nodesG N x).isSome) = N := by
  funext f
  unfold restN keep
  cases hn : N f with
  | none => simp
  | some n => simp [nodesG, hn]

set_option maxRecDepth 100000 in
set_option maxHeartbeats 1000000 in
theorem deleteFunc_any {w : World} {t bs ns bn bm sz c1 c2 : Nat} {K : Int → Bool} {N : Tab} {top last : Int} (hT : TabAt w t bn bm sz N top last) (hs : MapIs w Tryz.prog 95 bs ns (setV K)) (hne1 : bs ≠ bn) (hne2 : bs ≠ bm)
    (hc : w.cell? ⟨c1, 0, none⟩ = some (.map (some bs))) (hc2 : w.cell? ⟨c2, 0, none⟩ = some (.pointer (some ⟨t, 0, none⟩))) :
    Calls Tryz.prog 111 #[.map (some bm), .func (.func 112) #[] #[.pointer (some ⟨c1, 0, none⟩), .pointer (some ⟨c2, 0, none⟩)]] w fun e w' => ∃ sz', e = .returned (.tuple #[]) ∧ MapIs w' Tryz.prog 132 bn sz' (namesG (keep N K)) ∧ MapIs w' Tryz.prog 95 bm sz' (nodesG (keep N K)) ∧ Keeps [bn, bm] w w' := by
  have hown := hT.nodes
  go_enter Tryz.func111, Tryz.ntmps111
  go_wp2_with (first
    | (at_range; refine wpList_rangeIs _ rfl _ 94 rfl 95 132 lawFn Tryz.underlying94 bm sz (nodesG N) rfl hown ?_; intro w0 hrg0 hg0 hs0)
    | go_in)
  go_frame
  go_loopw [4] (fun _ wr => ∃ (left : Value → Bool) (cnt szr : Nat), RangeIs wr Tryz.prog 95 bm w.heap.size szr (nodesG (restN N K left)) left cnt ∧ MapIs wr Tryz.prog 132 bn szr (namesG (restN N K left)) ∧ Keeps [bn, bm] w wr ∧ ∀ x, left (.int .i64 x) = true → ∃ n, N x = some n)
    (fun _ wr => wr.rangeLeft bm w.heap.size)
  case atStart =>
    refine ⟨fun x => (nodesG N x).isSome, sz, sz, ?_, ?_, (Keeps.refl _ _).grown hg0 (by simp), ?_⟩
    · rw [restN_start]; exact hrg0
    · rw [restN_start]; exact hT.names.grown hg0 (by simp)
    · intro x hx
      cases hn : N x with
      | none => simp [nodesG, hn] at hx
      | some n => exact ⟨n, rfl⟩
  case round =>
    obtain ⟨left, cnt, szr, hrg, hnm, hkw, hleft⟩ := hrel
    go_wp2_with (first
      | (at_next; refine wpList_nextIs _ rfl _ rfl 95 .i64 lawFn Tryz.underlying95 nodeV bm w.heap.size szr _ left cnt ?_ rfl hrg ?_ ?_)
      | go_in)
    · intro x v hv
      unfold nodesG at hv
      split at hv
      · obtain ⟨n, _, rfl⟩ := Option.map_eq_some_iff.1 hv
        exact ⟨n, rfl⟩
      · cases hv
    · intro _ hl0
      go_wp2
      go_end0
      have e : restN N K left = keep N K := by
        refine keep_congr (fun f n hn => ?_)
        rw [hl0 f (hT.fits (ok_node hn)).wf]
        simp
      rw [e] at hrg hnm
      exact ⟨szr, rfl, hnm, hrg.owns, hkw⟩
    · intro x n w1 cnt1 hwx hlx hGx hrg1 hlt hg1 hs1 hen
      have hxn : restN N K left x = some n := by
        have : (restN N K left x).map nodeV = some (nodeV n) := hGx
        obtain ⟨n', h1, h2⟩ := Option.map_eq_some_iff.1 this
        rw [h1, nodeV_inj h2]
      have hxN : N x = some n := (keep_some.1 hxn).2
      have hfx : Fits x := hT.fits (ok_node hxN)
      have hkw1 : Keeps [bn, bm] w w1 := hkw.grown hg1 (by simp)
      have hl1 : w.heap.size < w1.heap.size := hrg1.lt
      have q1 : c1 ∉ [bn, bm] := by simp; exact ⟨hT.names.ne_cell hc, hT.nodes.ne_cell hc⟩
      have q2 : c2 ∉ [bn, bm] := by simp; exact ⟨hT.names.ne_cell hc2, hT.nodes.ne_cell hc2⟩
      have q3 : t ∉ [bn, bm] := by simp; exact ⟨hT.names.ne_cell hT.c0, hT.nodes.ne_cell hT.c0⟩
      have hc' := hkw1.cell hc q1
      have hc2' := hkw1.cell hc2 q2
      have ht' := hkw1.cell hT.c0 q3
      have hs' := hs.keeps hkw1 (by simp; exact ⟨hne1, hne2⟩)
      have hnl := hT.names.lt
      have hml := hT.nodes.lt
      have hnm' := hnm.grown hg1 (by simp; omega)
      have hka : Keeps [] w1 (w1.alloc (.cells #[Value.int .i64 n.lv, Value.int .i64 n.lo, Value.int .i64 n.hi] 132)) := (Keeps.refl _ _).alloc _
      have HN : Hid (N x = some n) := hxN
      have HX : Hid (restN N K left x = some n) := hxn
      have HGx : Hid (nodesG (restN N K left) (.int .i64 x) = some (nodeV n)) := hGx
      have n1 : Fits n.lv := by have := hT.wf.lv x n hxN; have := hT.wf.tops; unfold Fits; omega
      have n2 : Fits n.lo := hT.fits (hT.wf.lo x n hxN)
      have n3 : Fits n.hi := hT.fits (hT.wf.hi x n hxN)
      unfold nodeV trip at hen
      clear hxn hxN hGx
      have HL : Hid (∀ y, y ≠ x → strike left (.int .i64 x) (.int .i64 y) = left (.int .i64 y)) := fun y hy => strike_other _ (by intro e; cases e; exact hy rfl)
      have hleft' : ∀ y, strike left (.int .i64 x) (.int .i64 y) = true → ∃ n, N y = some n := by
        intro y hy
        by_cases e : y = x
        · subst e; rw [strike_same] at hy; cases hy
        · rw [HL.out y e] at hy; exact hleft y hy
      cases hK : K x with
      | true =>
        have hsame : restN N K (strike left (.int .i64 x)) = restN N K left := by
          refine keep_congr (fun f m _ => ?_)
          by_cases e : f = x
          · subst e; simp [hK]
          · show (K f || strike left (.int .i64 x) (.int .i64 f)) = (K f || left (.int .i64 f))
            rw [HL.out f e]
        have HS : Hid (restN N K (strike left (.int .i64 x)) = restN N K left) := hsame
        have HK : Hid (K x = true) := hK
        clear hsame hK
        go_wp2_with fail
        refine (keep1_in n (hs'.keeps hka (by simp)) (hka.cell hc' (by simp)) hfx HK.out).mono ?_
        rintro e w2 ⟨rfl, hk2⟩
        go_wp2_with fail
        have hka2 := hka.trans hk2
        go_roundw
        case rel => exact ⟨strike left (.int .i64 x), cnt1, szr, by rw [HS.out]; exact hrg1.keeps hka2 (by simp) (by simp), by rw [HS.out]; exact hnm'.keeps hka2 (by simp), hkw1.trans (hka2.mono (by simp)), hleft'⟩
        case measure => rw [(hrg1.keeps hka2 (by simp) (by simp)).left_eq, hrg.left_eq]; exact hlt
      | false =>
        have HK : Hid (K x = false) := hK
        have hGn : (namesG (restN N K left) (nodeV n)).isSome = true := by
          have := namesG_iff hT.wf (S := fun f => K f || left (.int .i64 f)) HX.out
          rw [show namesG (restN N K left) (nodeV n) = some (.int .i64 x) from this]; rfl
        have HGn : Hid ((namesG (restN N K left) (nodeV n)).isSome = true) := hGn
        clear hK hGn
        go_wp2_with fail
        refine (keep1_out n (hs'.keeps hka (by simp)) (hnm'.keeps hka (by simp)) (hka.cell hc' (by simp)) (hka.cell hc2' (by simp)) (hka.cell ht' (by simp)) hfx n1 n2 n3 HK.out HGn.out).mono ?_
        rintro e w2 ⟨rfl, hm2, hk2⟩
        have hka2 : Keeps [bn] w1 w2 := (hka.mono (by simp)).trans hk2
        have hrg2 := hrg1.keeps hka2 (by simp; exact fun e => hT.ne e.symm) (by simp; omega)
        go_wp2_with (first
          | (at_delete; refine wpList_dropIs _ rfl _ _ 94 95 rfl 132 lawFn Tryz.underlying94 bm w.heap.size szr _ (strike left (.int .i64 x)) cnt1 rfl hrg2 (.int .i64 x) _ rfl (keyFn hfx) (strike_same _ _) ?_; intro w3 cnt3 hrg3 hle3 hg3; go_frame)
          | fail)
        have hstr : ∀ f, f ≠ x → (K f || strike left (.int .i64 x) (.int .i64 f)) = (K f || left (.int .i64 f)) := fun f hf => by rw [HL.out f hf]
        have hx0 : (K x || strike left (.int .i64 x) (.int .i64 x)) = false := by rw [HK.out, strike_same]; rfl
        rw [HGx.out] at hrg3
        go_roundw
        case rel =>
          refine ⟨strike left (.int .i64 x), cnt3, szr - 1, ?_, ?_, ?_, hleft'⟩
          · obtain ⟨D, lf, z1, z2, z3, z4⟩ := hrg3
            exact ⟨D, lf, z1, z2, fun key kl hkl => (z3 key kl hkl).trans (nodes_strike hx0 hstr key), z4⟩
          · exact (hm2.congr (fun v _ _ => names_strike hT.wf HN.out hx0 hstr v)).grown hg3 (by simp; exact hT.ne)
          · exact (hkw1.trans (hka2.mono (by simp))).grown hg3 (by simp)
        case measure => rw [hrg3.left_eq, hrg.left_eq]; omega

end Go.Proofs.YtmgjegokkbghlaaGreat
