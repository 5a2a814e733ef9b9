/- The walk of take. -/
import Derived.Test.YtbfmekddfibciaaExchA
namespace Go.Proofs.Ytbfmekddfibciaa
open Go.RowKit Go.Maps Bdd
attribute [local go_sem ↓] Go.wp_at_zero Go.wp_at_succ

/-- is a function's first node at this level? -/
def atB (N : Tab) (l : Int) (f : Int) : Bool := match N f with | some n => n.lv == l | none => false
theorem atB_iff (N : Tab) (l f : Int) : atB N l f = true ↔ AtLv N l f := by
  unfold atB AtLv
  cases N f with
  | none => simp
  | some n => simp

theorem _root_.Go.Proofs.Ytbfmekddfibciaa.Bdd.Wf.fitsN {N : Tab} {top last : Int} (hw : Wf N top last) (hbig : last ≤ 4611686018427387904) : ∀ f n, N f = some n → Fits f ∧ Fits n.lv ∧ Fits n.lo ∧ Fits n.hi := by
  intro f n hn
  have h1 := hw.range f n hn
  have h2 := hw.lv f n hn
  have h3 := hw.tops
  have okf : ∀ {k x : Int}, Ok N k x → Fits x := by
    intro k x hx
    rcases hx with rfl | rfl | ⟨m, hm, _⟩
    · unfold Fits; omega
    · unfold Fits; omega
    · have := hw.range x m hm; unfold Fits; omega
  exact ⟨by unfold Fits; omega, by unfold Fits; omega, okf (hw.lo f n hn), okf (hw.hi f n hn)⟩

/-- is the entry of a function's node still to come? -/
def leftN (N : Tab) (left : Value → Bool) (f : Int) : Bool := match N f with | some n => left (nodeV n) | none => false
def restT (N : Tab) (S0 : Int → Bool) (l : Int) (left : Value → Bool) (f : Int) : Bool := S0 f && (!atB N l f || leftN N left f)
def takenT (N : Tab) (S0 : Int → Bool) (l : Int) (left : Value → Bool) (f : Int) : Bool := S0 f && (atB N l f && !leftN N left f)
theorem leftN_strike {N : Tab} {top last : Int} (hw : Wf N top last) {left : Value → Bool} {f : Int} {n : Nd} (hn : N f = some n) (g : Int) : leftN N (strike left (nodeV n)) g = if g = f then false else leftN N left g := by
  unfold leftN
  cases hg : N g with
  | none =>
    by_cases e : g = f
    · rw [e, hn] at hg; cases hg
    · simp [e]
  | some m =>
    by_cases e : g = f
    · subst e
      rw [hn] at hg
      cases hg
      simp [strike_same]
    · simp only [e, if_false]
      refine strike_other _ (fun e' => e ?_)
      have := nodeV_inj e'
      subst this
      exact hw.uniq g f m hg hn

theorem nodes_add {N : Tab} {S S' : Int → Bool} {f : Int} {n : Nd} (hx : N f = some n) (hS' : S' f = true) (hSS : ∀ g, g ≠ f → S' g = S g) (v : Value) : setG (nodesG (keep N S)) (.int .i64 f) (some (nodeV n)) v = nodesG (keep N S') v := by
  by_cases e : v = .int .i64 f
  · subst e; rw [setG_same]
    simp [nodesG, keep, hS', hx]
  · rw [setG_other _ _ e]
    unfold nodesG
    split
    · rename_i x
      have : x ≠ f := fun ex => e (by rw [ex])
      simp only [keep, hSS x this]
    · rfl

/-- 'delete(m, k)' in the round, as it runs -/
theorem RangeIs.dropRun {P : Program} {k : TypeId} {w : World} {b r n : Nat} {G : Value → Option Value} {left : Value → Bool} {cnt : Nat} (h : RangeIs w P k b r n G left cnt) (K : Keyed P k) {t e : TypeId} (ht : P.underlying t = some (.map k e)) {key : Value} {kl : Lit} (hkey : keyOf P k key = some kl) (hleft : left key = false) (ty : TypeId) :
    ∃ w' cnt', (Builtin.delete_ #[t, k] ty #[.map (some b), key]).run P w = .ok (.tuple #[]) w' ∧ RangeIs w' P k b r (if (G key).isSome then n - 1 else n) (setG G key none) left cnt' ∧ cnt' ≤ cnt ∧ w.grownBy w' (some b) := by
  obtain ⟨D, lf, hrg, hs, hv, hl⟩ := h
  have hown := hrg.owns
  obtain ⟨w', cnt', hrun, r1, r2, r3⟩ := hrg.drop K ht hkey ty
  have hsz : Maps.size (D.del kl) = if (G key).isSome then n - 1 else n := by
    have := size_del (k := kl) (hown.tidy K)
    rw [← view_isSome hown kl, hv key kl hkey, hs] at this
    split at this <;> simp_all <;> omega
  refine ⟨w', cnt', hrun, ⟨D.del kl, fun x => lf x && !x.sameKey kl, ?_, hsz, ?_, ?_⟩, r2, r3.grown⟩
  · obtain ⟨es, clock, since, seen, c0, hb', F, _, hD, q⟩ := r1
    refine ⟨es, clock, since, seen, c0, hb', F, ?_, hD, q⟩
    rw [← hsz, hD]
    simp [Maps.size, length_sorted]
  · intro key' kl' hkey'
    by_cases e' : kl' = kl
    · subst e'
      have := K.inj hkey' hkey
      subst this
      rw [setG_same, view_none has_del_same]
    · rw [setG_other _ _ (fun ek => e' (by rw [ek] at hkey'; rw [hkey] at hkey'; cases hkey'; rfl)), ← hv key' kl' hkey']
      unfold view
      rw [has_del_other e', atKey_del_other e']
  · intro key' kl' hkey'
    by_cases e' : kl' = kl
    · subst e'
      have := K.inj hkey' hkey
      subst this
      show (lf kl' && !kl'.sameKey kl') = left key'
      rw [hl _ _ hkey', hleft]; rfl
    · show (lf kl' && !kl'.sameKey kl) = left key'
      rw [sameKey_ne e', hl _ _ hkey']; simp

set_option maxRecDepth 100000 in
set_option maxHeartbeats 2000000 in
theorem take_any {w : World} {t bn n1 : Nat} {N : Tab} {top last l : Int} {S0 : Int → Bool} (hw : Wf N top last) (hbig : last ≤ 4611686018427387904) (c0 : w.cell? ⟨t, 0, none⟩ = some (.map (some bn))) (hm : MapIs w Try.prog 115 bn n1 (namesG (keep N S0))) (hn1 : n1 < 1000000) :
    Calls Try.prog 84 #[.pointer (some ⟨t, 0, none⟩), .int .i64 l] w fun e w' => ∃ mb cn n1', e = .returned (.map (some mb)) ∧ w.heap.size ≤ mb ∧ MapIs w' Try.prog 69 mb cn (nodesG (keep N (fun f => S0 f && atB N l f))) ∧ cn ≤ n1 ∧
      MapIs w' Try.prog 115 bn n1' (namesG (keep N (fun f => S0 f && !atB N l f))) ∧ n1' ≤ n1 ∧ Keeps [bn] w w' := by
  have hmm := @run_makeMap Try.prog
  have hml : (1000000 : Nat) < maxLen := by decide
  have hlt := hm.lt
  have htl : t < w.heap.size := cell_lt c0
  have hnt := hm.ne_cell c0
  simp only at hnt
  obtain ⟨W, hW⟩ : ∃ W, W = w.alloc (.map #[] 0) := ⟨_, rfl⟩
  have hkW : Keeps [] w W := by rw [hW]; exact (Keeps.refl _ _).alloc _
  have hWs : W.heap.size = w.heap.size + 1 := by rw [hW]; simp
  have hset : MapIs W Try.prog 69 w.heap.size 0 (nodesG (fun _ => none)) := by
    rw [hW]; exact (MapIs.made w Try.prog 69).congr (fun v _ _ => by unfold nodesG; split <;> rfl)
  have hmW := hm.keeps hkW (by simp)
  have HW : Hid (W = w.alloc (.map #[] 0)) := hW
  have c0' := hkW.cell c0 (by simp)
  rw [hW] at c0'
  clear hW
  go_enter Try.func84, Try.ntmps84
  go_wp2_with (first
    | (at_range; rw [← HW.out]; refine wpList_rangeIs _ rfl _ 109 rfl 115 69 lawNode Try.underlying109 bn n1 (namesG (keep N S0)) rfl hmW ?_; intro w0 hrg0 hg0 hs0; rw [hWs] at hrg0; rw [hWs])
    | go_in)
  go_frame
  obtain ⟨lf, hlf⟩ : ∃ lf : Value → Bool, lf = fun x => (namesG (keep N S0) x).isSome := ⟨_, rfl⟩
  rw [← hlf] at hrg0
  have hS0 : ∀ f n, N f = some n → S0 f = true → leftN N lf f = true := by
    intro f n hn hs
    simp only [leftN, hn, hlf]
    rw [namesG_iff hw (keep_some.2 ⟨hs, hn⟩)]
    rfl
  clear hlf
  have hfits := hw.fitsN hbig
  have HF : Hid (∀ f n, N f = some n → Fits f ∧ Fits n.lv ∧ Fits n.lo ∧ Fits n.hi) := hfits
  have HS0 : Hid (∀ f n, N f = some n → S0 f = true → leftN N lf f = true) := hS0
  clear hfits hS0
  go_loopw [6, 7] (fun _ _ wr => ∃ (left : Value → Bool) (cnt cn n1r : Nat), RangeIs wr Try.prog 115 bn (w.heap.size + 1) n1r (namesG (keep N (restT N S0 l left))) left cnt ∧ MapIs wr Try.prog 69 w.heap.size cn (nodesG (keep N (takenT N S0 l left))) ∧ n1r ≤ n1 ∧ cn + cnt ≤ n1 ∧ Keeps [bn, w.heap.size, w.heap.size + 1] W wr)
    (fun _ _ wr => wr.rangeLeft bn (w.heap.size + 1))
  case atStart =>
    refine ⟨lf, n1, 0, n1, hrg0.congr (fun x _ _ => ?_), (hset.grown hg0 (by simp)).congr (fun x _ _ => ?_), Nat.le_refl _, by omega, (Keeps.refl _ _).grown hg0 (by simp)⟩
    · refine congrArg (fun T => namesG T x) (keep_congr (S := S0) (S' := restT N S0 l lf) (fun f n hn => ?_))
      unfold restT
      cases hs : S0 f with
      | false => rfl
      | true => simp [HS0.out f n hn hs]
    · refine congrArg (fun T => nodesG T x) ?_
      funext f
      unfold keep takenT
      cases hn : N f with
      | none => simp
      | some n =>
        cases hs : S0 f with
        | false => simp
        | true => rw [HS0.out f n hn hs]; simp
  case round =>
    obtain ⟨left, cnt, cn, n1r, hrg, hmt, hn1r, hcn, hkr⟩ := hrel
    go_wp2_with (first
      | (at_next; refine wpList_nextAny _ rfl _ rfl 115 lawNode bn (w.heap.size + 1) n1r _ left cnt rfl hrg ?_ ?_)
      | go_in)
    · intro hc0 hleft
      go_wp2_with fail
      go_ret
      have hL : ∀ f n, N f = some n → leftN N left f = false := by
        intro f n hn
        obtain ⟨z0, z1, z2, z3⟩ := HF.out f n hn
        obtain ⟨kl, hkl⟩ := key130 z1 z2 z3
        simp only [leftN, hn]
        exact hleft _ kl hkl
      refine ⟨_, cn, n1r, rfl, Nat.le_refl _, hmt.congr (fun x _ _ => ?_), by omega, hrg.owns.congr (fun x _ _ => ?_), hn1r, ((hkW.mono (by simp)).trans hkr).strike (by simp; omega)⟩
      · refine congrArg (fun T => nodesG T x) (keep_congr (fun f n hn => ?_))
        simp [takenT, hL f n hn]
      · refine congrArg (fun T => namesG T x) (keep_congr (fun f n hn => ?_))
        simp [restT, hL f n hn]
    · intro key v kl w1 cnt1 hkey hlk hGk hrg1 hlt1 hg1 hs1 hen
      obtain ⟨f, n, hfn, e1, e2⟩ := namesG_back (A := keep N (restT N S0 l left)) (fun f g m h1 h2 => hw.uniq f g m (keep_some.1 h1).2 (keep_some.1 h2).2) hGk
      obtain ⟨hR, hn⟩ := keep_some.1 hfn
      subst e1 e2
      have hls := leftN_strike (left := left) hw hn
      have hRS : ∀ g, g ≠ f → restT N S0 l (strike left (nodeV n)) g = restT N S0 l left g := fun g hg => by unfold restT; rw [hls g, if_neg hg]
      have hTS : ∀ g, g ≠ f → takenT N S0 l (strike left (nodeV n)) g = takenT N S0 l left g := fun g hg => by unfold takenT; rw [hls g, if_neg hg]
      have hS0f : S0 f = true := by unfold restT at hR; simp at hR; exact hR.1
      have hk1 : Keeps [bn, w.heap.size, w.heap.size + 1] W w1 := hkr.grown hg1 (by simp)
      have hmt1 := hmt.grown hg1 (by simp)
      have HK : Hid (keyOf Try.prog 115 (nodeV n) = some kl) := hkey
      have HN : Hid (N f = some n) := hn
      have HFf := (HF.out f n hn).1
      have HRS : Hid (∀ g, g ≠ f → restT N S0 l (strike left (nodeV n)) g = restT N S0 l left g) := hRS
      have HTS : Hid (∀ g, g ≠ f → takenT N S0 l (strike left (nodeV n)) g = takenT N S0 l left g) := hTS
      have HLS : Hid (leftN N (strike left (nodeV n)) f = false) := by show _ = _; rw [hls f, if_pos rfl]
      have HSF : Hid (S0 f = true) := hS0f
      have HGk : Hid (namesG (keep N (restT N S0 l left)) (nodeV n) = some (.int .i64 f)) := hGk
      obtain ⟨left', hleft'⟩ : ∃ left', left' = strike left (nodeV n) := ⟨_, rfl⟩
      have HL' : Hid (left' (nodeV n) = false) := by show _ = _; rw [hleft']; exact strike_same _ _
      rw [← hleft'] at hrg1 HRS HTS HLS
      have HLE : Hid (wr.rangeLeft bn (w.heap.size + 1) = cnt) := hrg.left_eq
      clear hkey hn hR hfn hls hRS hTS hS0f hGk hleft' hlk hrg
      by_cases q : n.lv = l
      · have q' : (n.lv == l) = true := by simp [q]
        have hat : atB N l f = true := by simp [atB, HN.out, q]
        have HAT : Hid (atB N l f = true) := hat
        clear hat q hs1
        obtain ⟨W1, hW1⟩ : ∃ W1, W1 = w1.alloc (.cells #[.int .i64 n.lv, .int .i64 n.lo, .int .i64 n.hi] 115) := ⟨_, rfl⟩
        have kW1 : Keeps [] w1 W1 := by rw [hW1]; exact (Keeps.refl _ _).alloc _
        have b0 : W1.cell? ⟨w1.heap.size, 0, none⟩ = some (.int .i64 n.lv) := by rw [hW1]; simp
        have b1 : W1.cell? ⟨w1.heap.size, 1, none⟩ = some (.int .i64 n.lo) := by rw [hW1]; simp
        have b2 : W1.cell? ⟨w1.heap.size, 2, none⟩ = some (.int .i64 n.hi) := by rw [hW1]; simp
        have hrgW : RangeIs W1 Try.prog 115 bn (w.heap.size + 1) n1r (namesG (keep N (restT N S0 l left))) left' cnt1 := by rw [hW1]; exact hrg1.alloc _
        have hmW2 := hmt1.keeps kW1 (by simp)
        obtain ⟨w2, hr2, hm2, hg2⟩ := hmW2.update lawFn Try.underlying110 (by omega) (keyFn HFf) (nodeV n)
        have kg2 : Keeps [w.heap.size] W1 w2 := (Keeps.refl _ _).grown hg2 (by simp)
        have hrg2 := hrgW.keeps kg2 (by simp; omega) (by simp)
        obtain ⟨w3, cnt3, hr3, hrg3, hle3, hg3⟩ := (show RangeIs w2.drew Try.prog 115 bn (w.heap.size + 1) n1r (namesG (keep N (restT N S0 l left))) left' cnt1 from hrg2).dropRun lawNode Try.underlying109 HK.out HL'.out 0
        have hsz1 : W.heap.size ≤ w1.heap.size := hk1.size
        have nB : w1.heap.size ∉ [w.heap.size] := by simp; omega
        have b0' := kg2.cell b0 nB
        have b1' := kg2.cell b1 nB
        have b2' := kg2.cell b2 nB
        have c1 := hk1.cell (hkW.cell c0 (by simp)) (by simp; omega)
        have c2 := kg2.cell (kW1.cell c1 (by simp)) (by simp; omega)
        have hm3 := (show MapIs w2.drew Try.prog 69 w.heap.size _ _ from hm2).grown hg3 (by simp; omega)
        have hk3 : Keeps [bn, w.heap.size, w.heap.size + 1] W w3 := ((((hk1.trans (kW1.mono (by simp))).trans (kg2.mono (by simp))).drew).grown hg3 (by simp))
        have HM3 : Hid (MapIs w3 Try.prog 69 w.heap.size (if (nodesG (keep N (takenT N S0 l left)) (.int .i64 f)).isSome then cn else cn + 1) (setG (nodesG (keep N (takenT N S0 l left))) (.int .i64 f) (some (nodeV n)))) := hm3
        have HR3 : Hid (RangeIs w3 Try.prog 115 bn (w.heap.size + 1) (if (namesG (keep N (restT N S0 l left)) (nodeV n)).isSome then n1r - 1 else n1r) (setG (namesG (keep N (restT N S0 l left))) (nodeV n) none) left' cnt3) := hrg3
        clear hm3 hrg3 hm2 hrg2 hrgW hrg1 hmW2 hmt1
        unfold nodeV trip at hr2 hr3 hen ⊢
        subst hW1
        go_wp2_with fail
        go_region
        go_wp2_with fail
        go_roundw
        case rel =>
          refine ⟨left', cnt3, _, _, HR3.out.congr (fun x _ _ => ?_), HM3.out.congr (fun x _ _ => ?_), ?_, ?_, hk3⟩
          · exact names_strike hw HN.out (by simp [restT, HAT.out, HLS.out]) HRS.out x
          · exact nodes_add HN.out (by simp [takenT, HAT.out, HLS.out, HSF.out]) HTS.out x
          · split <;> omega
          · split <;> omega
        case measure => rw [HR3.out.left_eq, HLE.out]; omega
      · have q' : (n.lv == l) = false := by simp [q]
        have hat : atB N l f = false := by simp [atB, HN.out, q]
        have HAT : Hid (atB N l f = false) := hat
        clear hat
        unfold nodeV trip at hen ⊢
        go_wp2_with fail
        go_roundw
        case rel =>
          refine ⟨left', cnt1, cn, n1r, (hrg1.alloc _).congr (fun x _ _ => ?_), (hmt1.alloc _).congr (fun x _ _ => ?_), hn1r, by omega, hk1.alloc _⟩
          · refine congrArg (fun T => namesG T x) (keep_congr (fun g m hg => ?_))
            by_cases e : g = f
            · subst e; simp [restT, HAT.out]
            · exact (HRS.out g e).symm
          · refine congrArg (fun T => nodesG T x) (keep_congr (fun g m hg => ?_))
            by_cases e : g = f
            · subst e; simp [takenT, HAT.out]
            · exact (HTS.out g e).symm
        case measure => rw [(hrg1.alloc _).left_eq, HLE.out]; exact hlt1

end Go.Proofs.Ytbfmekddfibciaa
