/- Shapes. -/
import Derived.Test.YtmgjegokkbghlaaSizeC
import Derived.Test.YtmgjegokkbghlaaParts
namespace Go.Proofs.Ytmgjegokkbghlaa
open Go.RowKit Go.Maps Bdd
attribute [local go_sem ↓] Go.wp_at_zero Go.wp_at_succ

section
variable {N : Tab} {top last : Int}
theorem and_list (h : Wf N top last) {d : Nat} {f : Int} (hf : Ok N 0 f) (hE : ∀ a, E N f a = andF (d + 1) 0 a) : ∃ l : List Int, l.Nodup ∧ l.length = d + 1 ∧ ∀ x, Rch N f x ↔ x ∈ l := by
  obtain ⟨l, z, h1, h2, h3, h4, _⟩ := and_nodes h d 0 f hf hE
  refine ⟨z :: l, List.nodup_cons.2 ⟨h4, h1⟩, by simp [h2], fun x => ?_⟩
  rw [h3, List.mem_cons]
  constructor
  · rintro (hx | hx)
    · exact Or.inr hx
    · exact Or.inl hx
  · rintro (hx | hx)
    · exact Or.inr hx
    · exact Or.inl hx
theorem par_list (h : Wf N top last) {d : Nat} {f : Int} (hf : Ok N 0 f) (hE : ∀ a, E N f a = parF (d + 1) 0 false a) :
    ∃ l : List Int, l.Nodup ∧ l.length = 2 * d + 1 ∧ (∀ x, Rch N f x ↔ x ∈ l) ∧ (∀ x ∈ l, ∃ n, N x = some n ∧ ∃ d' b, Ok N 0 x ∧ ∀ a, E N x a = parF (d' + 1) n.lv b a) ∧ (∀ x, Ok N 0 x → (∀ a, E N x a = parF 1 d false a) → x ∈ l) := by
  obtain ⟨n, hn, hl, olo, ohi, el, eh⟩ := par_step h hf hE
  obtain ⟨l, h1, h2, h3, h4, h5⟩ := par_nodes h d (0 + 1) n.lo n.hi olo ohi el eh
  have hfl : f ∉ l := fun hin => by
    obtain ⟨o, ho, hlo, _⟩ := h4 f hin
    rw [hn] at ho; cases ho; omega
  refine ⟨f :: l, List.nodup_cons.2 ⟨hfl, h1⟩, by simp [h2], fun x => ?_, fun x hx => ?_, fun x ho hx => ?_⟩
  · rw [rch_at hn, List.mem_cons, ← h3]
  · rcases List.mem_cons.1 hx with rfl | hx
    · exact ⟨n, hn, d, false, hf, fun a => by rw [hE, hl]⟩
    · obtain ⟨o, ho, _, d', b, oo, he⟩ := h4 x hx
      exact ⟨o, ho, d', b, oo, he⟩
  · cases d with
    | zero =>
      have := (canon_iff h ho hf).2 (fun a => by rw [hx, hE]; rfl)
      simp [this]
    | succ d =>
      have := h5 x 0 false (by omega) ho (fun a => by
        rw [hx]
        have e : (0 : Int) + 1 + ((d + 1 : Nat) : Int) - ((0 : Nat) : Int) - 1 = ((d + 1 : Nat) : Int) := by omega
        rw [e])
      simp [this]
theorem and_not_par {d d' : Nat} {j : Int} {b : Bool} (h : ∀ a, andF (d + 2) j a = parF (d' + 1) j b a) : False := by
  have p0 : ∀ (d : Nat) (j : Int) (b : Bool) (a : Int → Bool), (∀ i, j ≤ i → a i = false) → parF d j b a = b := by
    intro d
    induction d with
    | zero => intro j b a _; rfl
    | succ d ih =>
      intro j b a ha
      have : (b != false) = b := by cases b <;> rfl
      simp only [parF, ha j (by omega), this]
      exact ih _ _ _ (fun i hi => ha i (by omega))
  have h0 := h (fun _ => false)
  rw [p0 _ _ _ _ (fun _ _ => rfl)] at h0
  have hb : b = false := by rw [← h0]; simp [andF]
  have h1 := h (setAt (fun _ => false) j true)
  have e1 : setAt (fun _ => false) j true j = true := by simp [setAt]
  have e2 : setAt (fun _ => false) j true (j + 1) = false := by unfold setAt; rw [if_neg (by omega)]
  have : andF (d + 2) j (setAt (fun _ => false) j true) = false := by simp [andF, e1, e2]
  rw [this] at h1
  simp only [parF, e1, hb] at h1
  rw [p0 _ _ _ _ (fun i hi => by unfold setAt; rw [if_neg (by omega)])] at h1
  simp at h1
theorem both_list (h : Wf N top last) {d : Nat} {f g : Int} (hf : Ok N 0 f) (hg : Ok N 0 g) (hE : ∀ a, E N f a = andF (d + 1) 0 a) (hG : ∀ a, E N g a = parF (d + 1) 0 false a) :
    ∃ l : List Int, l.Nodup ∧ l.length = 3 * d + 1 ∧ ∀ x, (Rch N f x ∨ Rch N g x) ↔ x ∈ l := by
  obtain ⟨l, z, h1, h2, h3, h4, hz, hzE, h7, _⟩ := and_nodes h d 0 f hf hE
  obtain ⟨l', k1, k2, k3, k4, k5⟩ := par_list h hg hG
  have hzl : z ∈ l' := k5 z hz (fun a => by
    rw [hzE]
    have e : (0 : Int) + (d : Int) = (d : Int) := by omega
    rw [e]
    simp only [andF, parF, Bool.and_true]
    cases a (d : Int) <;> rfl)
  refine ⟨l ++ l', ?_, by simp [h2, k2]; omega, fun x => ?_⟩
  · rw [List.nodup_append]
    refine ⟨h1, k1, fun x hx y hy e => ?_⟩
    subst e
    obtain ⟨n, hn, _, d', _, e1⟩ := h7 x hx
    obtain ⟨m, hm, d'', b, _, e2⟩ := k4 x hy
    rw [hn] at hm
    cases hm
    exact and_not_par (fun a => by rw [← e1, e2])
  · rw [h3, k3, List.mem_append]
    constructor
    · rintro ((hx | rfl) | hx)
      · exact Or.inl hx
      · exact Or.inr hzl
      · exact Or.inr hx
    · rintro (hx | hx)
      · exact Or.inl (Or.inl hx)
      · exact Or.inr hx
end

/-! how often they are true -/
theorem cnt_fix {P Q : (Int → Bool) → Bool} {j : Int} {v : Bool} (h : ∀ b : Int → Bool, b j = v → P b = Q b) : ∀ (k : Nat) (l : Int) (a : Int → Bool), j < l → a j = v → cnt P k l a = cnt Q k l a
  | 0, l, a, _, ha => by simp [cnt, h a ha]
  | k + 1, l, a, hl, ha => by
    have e : ∀ u, setAt a l u j = v := fun u => by unfold setAt; rw [if_neg (by omega)]; exact ha
    simp only [cnt, cnt_fix h k (l + 1) _ (by omega) (e _)]
theorem cnt_and : ∀ (d : Nat) (j : Int) (a : Int → Bool), cnt (andF d j) d j a = 1
  | 0, _, _ => rfl
  | d + 1, j, a => by
    have e0 : cnt (andF (d + 1) j) d (j + 1) (setAt a j false) = cnt (fun _ => false) d (j + 1) (setAt a j false) := cnt_fix (j := j) (v := false) (fun b hb => by simp [andF, hb]) d (j + 1) _ (by omega) (by simp [setAt])
    have e1 : cnt (andF (d + 1) j) d (j + 1) (setAt a j true) = cnt (andF d (j + 1)) d (j + 1) (setAt a j true) := cnt_fix (j := j) (v := true) (fun b hb => by simp [andF, hb]) d (j + 1) _ (by omega) (by simp [setAt])
    simp only [cnt, e0, e1, cnt_false, cnt_and d]
theorem cnt_par : ∀ (d : Nat) (j : Int) (b : Bool) (a : Int → Bool), cnt (parF (d + 1) j b) (d + 1) j a = 2 ^ d
  | 0, j, b, a => by
    have e0 : ∀ v, setAt a j v j = v := fun v => by simp [setAt]
    simp only [cnt, parF, e0]
    cases b <;> simp
  | d + 1, j, b, a => by
    have e0 : cnt (parF (d + 2) j b) (d + 1) (j + 1) (setAt a j false) = cnt (parF (d + 1) (j + 1) (b != false)) (d + 1) (j + 1) (setAt a j false) := cnt_fix (j := j) (v := false) (fun c hc => by rw [parF, hc]) (d + 1) (j + 1) _ (by omega) (by simp [setAt])
    have e1 : cnt (parF (d + 2) j b) (d + 1) (j + 1) (setAt a j true) = cnt (parF (d + 1) (j + 1) (b != true)) (d + 1) (j + 1) (setAt a j true) := cnt_fix (j := j) (v := true) (fun c hc => by rw [parF, hc]) (d + 1) (j + 1) _ (by omega) (by simp [setAt])
    rw [cnt, e0, e1, cnt_par d, cnt_par d, Nat.pow_succ]
    omega
theorem andF_snoc : ∀ (d : Nat) (j : Int) (a : Int → Bool), andF (d + 1) j a = (andF d j a && a (j + d))
  | 0, j, a => by simp [andF]
  | d + 1, j, a => by
    rw [andF, andF_snoc d (j + 1) a]
    have e : j + 1 + (d : Int) = j + ((d + 1 : Nat) : Int) := by omega
    simp only [andF, e, Bool.and_assoc]
theorem parF_snoc : ∀ (d : Nat) (j : Int) (b : Bool) (a : Int → Bool), parF (d + 1) j b a = (parF d j b a != a (j + d))
  | 0, j, b, a => by simp [parF]
  | d + 1, j, b, a => by
    rw [parF, parF_snoc d (j + 1) _ a]
    have e : j + 1 + (d : Int) = j + ((d + 1 : Nat) : Int) := by omega
    simp only [parF, e]

theorem St.le {w : World} {s hb t bn bm L nh sz : Nat} {od : Ord L} {lim given lb : Int} {V : Int → Option Fun} (h : St w s hb t bn bm od nh sz lim given V lb) : ∀ x, (V x).isSome = true → x ≤ given := by
  obtain ⟨N, last, H, hst, k1, k2, k3, k4, k5, k6⟩ := h
  exact k4
theorem delV_other {V : Int → Option Fun} {f x : Int} (h : x ≠ f) : delV V f x = V x := by simp [delV, h]

/-- where the loop stands: two functions are held, and no other -/
structure ShI (w0 w : World) (s hb t bn bm : Nat) {k : Nat} (od : Ord k) (j : Nat) (p q : Int) : Prop where
  st : ∃ sz G V, St w s hb t bn bm od 2 sz 2000 G V (1000000 * ((j : Int) + 1)) ∧ G ≤ 3 * (j : Int) + 2 ∧ p ≤ G ∧ q ≤ G ∧ (∃ F, V p = some F ∧ ∀ a, F a = andF j 0 a) ∧ (∃ F, V q = some F ∧ ∀ a, F a = parF j 0 false a) ∧ ∀ x, (V x).isSome = true → x = p ∨ x = q
  ne : p ≠ q
  keep : Keeps [] w0 w

set_option maxRecDepth 100000 in
set_option maxHeartbeats 40000000 in
theorem shapes_walk {w : World} {n0 : Int} (hn0 : Fits n0) :
    Calls Try.prog 7 #[.int .i64 n0] w fun e w' => e = .returned (.bool true) ∧ Keeps [] w w' := by
  go_enter Try.func7, Try.ntmps7
  go_wp2_with fail
  refine (pick_any hn0 (by omega) (by omega)).mono ?_
  rintro e w3 ⟨⟨c, rfl, hc0, hc1⟩, rfl⟩
  obtain ⟨d, rfl⟩ := Int.eq_ofNat_of_zero_le hc0
  have hd8 : d < 8 := by omega
  go_wp2_with fail
  obtain ⟨k, hk⟩ : ∃ k : Nat, ((k : Nat) : Int) = 1 + (d : Int) := ⟨1 + d, by omega⟩
  rw [← hk]
  have Hk : Hid (k = d + 1) := by show k = d + 1; omega
  have hk8 : k ≤ 8 := by omega
  have hk1 : 1 ≤ k := by omega
  have hki : (k : Int) ≤ 8 := by omega
  have hki1 : (1 : Int) ≤ (k : Int) := by omega
  have hpk : pw k ≤ 256 := by
    have : ∀ k, k ≤ 8 → pw k ≤ 256 := by decide
    exact this k hk8
  have hcap : ∀ m, m ≤ 5 → ((m * (pw k - 1) : Nat) : Int) ≤ 2000 := by
    intro m hm
    have := Nat.mul_le_mul hm (show pw k - 1 ≤ 255 by omega)
    omega
  clear hk hc0 hc1 hpk
  refine (new_good (L := k) (l := 2000) hk1 hk8 (by omega) (by omega)).mono ?_
  rintro e w1 ⟨s, hb, t, bn, bm, ob, cap, rfl, hS1, hk1', j1, j2, j3, j4, j5, j60⟩
  obtain ⟨od, hod, hblk, hS1⟩ : ∃ od : Ord k, (∀ k, od.at_ k = k) ∧ od.blk = ob ∧ St w1 s hb t bn bm od 0 0 2000 0 (fun _ => none) 1 := ⟨Ord.first k ob cap, fun _ => rfl, rfl, hS1⟩
  have j6 : w.heap.size ≤ od.blk := by rw [hblk]; exact j60
  have HOD : Hid (∀ k, od.at_ k = k) := hod
  clear j60 hblk hod
  have hs0 : ∀ i ∈ [s, hb, t, bn, bm, od.blk], w.heap.size ≤ i := by simp; omega
  go_wp2_with fail
  refine (constant_any hS1 true (by omega)).mono ?_
  intro e w2 hh
  obtain ⟨p, V2, sz2, rfl, a2, b2, hS2, hV2, hVo2, hk2⟩ := hh.named (by omega) (hcap _ (by omega))
  clear hh
  go_wp2_with fail
  refine (constant_any hS2 false (by omega)).mono ?_
  intro e w3 hh
  obtain ⟨q, V3, sz3, rfl, a3, b3, hS3, hV3, hVo3, hk3⟩ := hh.named (by omega) (hcap _ (by omega))
  clear hh
  have hI0 : ShI w w3 s hb t bn bm od 0 p q := by
    refine ⟨⟨sz3, q, V3, ?_, by omega, by omega, by omega, ⟨_, (hVo3 p (by omega)).trans hV2, fun a => rfl⟩, ⟨_, hV3, fun a => rfl⟩, fun x hx => ?_⟩, by omega, ?_⟩
    · obtain ⟨N, last, H, z1, z2, z3, z4, z5, z6, z7⟩ := hS3
      exact ⟨N, last, H, z1, z2, z3, by omega, z5, z6, z7⟩
    · have h1 := hS3.le x hx
      by_cases e : x = q
      · exact Or.inr e
      · rw [hVo3 x (by omega)] at hx
        have h2 := hS2.le x hx
        by_cases e2 : x = p
        · exact Or.inl e2
        · rw [hVo2 x (by omega)] at hx
          cases hx
    · exact (((hk1'.mono (by simp)).trans hk2).trans hk3).strike (fun i hi hlt => by have := hs0 i hi; omega)
  clear hS1 hS2 hS3 hV2 hV3 hVo2 hVo3 hk1' hk2 hk3 a2 b2 a3 b3
  go_wp2_with fail
  go_loopw [6, 8, 10] (fun x y v wr => ∃ (j : Nat) (p q : Int), j ≤ k ∧ v = .int .i64 j ∧ x = .int .i64 p ∧ y = .int .i64 q ∧ ShI w wr s hb t bn bm od j p q) (fun _ _ v _ => k - (intOf v).toNat)
  case atStart => exact ⟨0, p, q, by omega, rfl, rfl, rfl, hI0⟩
  case round =>
    clear hI0
    obtain ⟨j, p, q, hj, rfl, rfl, rfl, hI⟩ := hrel
    obtain ⟨⟨sz, G, V, hS, g1, g2, g3, ⟨F, hF, hFe⟩, ⟨Q, hQ, hQe⟩, honly⟩, hne, hkeep⟩ := hI
    by_cases hlt : j < k
    · as_aux_lemma =>
      have hj0 : (0 : Int) ≤ (j : Int) := by omega
      have hj1 : (j : Int) < (k : Int) := by omega
      have HF : Hid (V p = some F) := hF
      have HQ : Hid (V q = some Q) := hQ
      have HFe : Hid (∀ a, F a = andF j 0 a) := hFe
      have HQe : Hid (∀ a, Q a = parF j 0 false a) := hQe
      have HO : Hid (∀ x, (V x).isSome = true → x = p ∨ x = q) := honly
      have G0 := hS.le p (by rw [hF]; rfl)
      have hGp : (0 : Int) ≤ G := by obtain ⟨N, last, H, hst, _⟩ := hS; exact hst.g0
      clear hF hQ hFe hQe honly
      go_wp2_with fail
      refine (variable_any (i := (j : Int)) hS hj0 hj1 (by omega) (by omega)).mono ?_
      intro e w4 hh
      obtain ⟨x1, V4, sz4, rfl, a4, b4, hS4, hV4, hVo4, hk4⟩ := hh.named (by omega) (hcap _ (by omega))
      clear hh
      go_wp2_with fail
      refine (apply_any (what := 0) hS4 ((hVo4 p g2).trans HF.out) hV4 (by omega) (by omega) (by omega) (by omega)).mono ?_
      intro e w5 hh
      obtain ⟨y1, V5, sz5, rfl, a5, b5, hS5, hV5, hVo5, hk5⟩ := hh.named (by omega) (hcap _ (by omega))
      clear hh
      go_wp2_with fail
      refine (apply_any (what := 2) hS5 (((hVo5 q (by omega)).trans (hVo4 q g3)).trans HQ.out) ((hVo5 x1 (by omega)).trans hV4) (by omega) (by omega) (by omega) (by omega)).mono ?_
      intro e w6 hh
      obtain ⟨z1, V6, sz6, rfl, a6, b6, hS6, hV6, hVo6, hk6⟩ := hh.named (by omega) (hcap _ (by omega))
      clear hh
      have e1 : V6 p = some F := (((hVo6 p (by omega)).trans (hVo5 p (by omega))).trans (hVo4 p g2)).trans HF.out
      have e2 : V6 q = some Q := (((hVo6 q (by omega)).trans (hVo5 q (by omega))).trans (hVo4 q g3)).trans HQ.out
      have e3 : V6 x1 = some fun a => a (j : Int) := ((hVo6 x1 (by omega)).trans (hVo5 x1 (by omega))).trans hV4
      have e4 := (hVo6 y1 (by omega)).trans hV5
      have E1 : Hid (V6 p = some F) := e1
      have E2 : Hid (V6 q = some Q) := e2
      have E3 : Hid (V6 x1 = some fun a => a (j : Int)) := e3
      have E4 : Hid (V6 y1 = some fun a => app 0 (F a) (a (j : Int))) := e4
      have E5 : Hid (V6 z1 = some fun a => app 2 (Q a) (a (j : Int))) := hV6
      have HO6 : Hid (∀ x, (V6 x).isSome = true → x = p ∨ x = q ∨ x = x1 ∨ x = y1 ∨ x = z1) := fun x hx => by
        have h1 := hS6.le x hx
        by_cases ez : x = z1
        · simp [ez]
        · by_cases ey : x = y1
          · simp [ey]
          · by_cases ex : x = x1
            · simp [ex]
            · have hxG : x ≤ G := by omega
              rw [hVo6 x (by omega), hVo5 x (by omega), hVo4 x hxG] at hx
              rcases HO.out x hx with h | h
              · exact Or.inl h
              · exact Or.inr (Or.inl h)
      have hk46 : Keeps [] w w6 := ((((hkeep.mono (by simp)).trans hk4).trans hk5).trans hk6).strike (fun i hi hlt => by have := hs0 i hi; omega)
      clear e1 e2 e3 e4 hV4 hV5 hV6 hVo4 hVo5 hVo6 hS4 hS5 hS hk4 hk5 hk6 hkeep HF HQ HO
      go_wp2_with fail
      refine (release_any hS6 E1.out).mono ?_
      rintro e w7 ⟨rfl, ⟨sz7, hS7⟩, hk70⟩
      have hk7 := hk70.six od.blk
      clear hk70
      go_wp2_with fail
      refine (release_any hS7 (by rw [delV_other (by omega)]; exact E2.out)).mono ?_
      rintro e w8 ⟨rfl, ⟨sz8, hS8⟩, hk80⟩
      have hk8 := hk80.six od.blk
      clear hk80
      go_wp2_with fail
      refine (release_any hS8 (by rw [delV_other (by omega), delV_other (by omega)]; exact E3.out)).mono ?_
      rintro e w9 ⟨rfl, ⟨sz9, hS9⟩, hk90⟩
      have hk9 := hk90.six od.blk
      clear hk90
      have hI9 : ShI w w9 s hb t bn bm od (j + 1) y1 z1 := by
        refine ⟨⟨sz9, z1, delV (delV (delV V6 p) q) x1, ?_, by omega, by omega, by omega, ⟨_, by rw [delV_other (by omega), delV_other (by omega), delV_other (by omega)]; exact E4.out, fun a => ?_⟩, ⟨_, by rw [delV_other (by omega), delV_other (by omega), delV_other (by omega)]; exact E5.out, fun a => ?_⟩, fun x hx => ?_⟩, by omega, ?_⟩
        · obtain ⟨N, last, H, z1, z2, z3, z4, z5, z6, z7⟩ := hS9
          exact ⟨N, last, H, z1, z2, z3, by omega, z5, z6, z7⟩
        · rw [andF_snoc, ← HFe.out]
          have : (0 : Int) + (j : Int) = (j : Int) := by omega
          rw [this]
          simp [app]
        · rw [parF_snoc, ← HQe.out]
          have : (0 : Int) + (j : Int) = (j : Int) := by omega
          rw [this]
          simp [app]
        · by_cases ep : x = p
          · subst ep
            rw [delV_other (by omega), delV_other (by omega)] at hx
            simp [delV] at hx
          · by_cases eq : x = q
            · subst eq
              rw [delV_other (by omega)] at hx
              simp [delV] at hx
            · by_cases ex : x = x1
              · subst ex
                simp [delV] at hx
              · rw [delV_other ex, delV_other eq, delV_other ep] at hx
                have := HO6.out x hx
                omega
        · exact ((((hk46.mono (by simp)).trans hk7).trans hk8).trans hk9).strike (fun i hi hlt => by have := hs0 i hi; omega)
      clear hS6 hS7 hS8 hS9 hk46 hk7 hk8 hk9 HO6 E1 E2 E3 E4 E5
      go_wp2_with fail
      go_roundw
      case rel => exact ⟨j + 1, y1, z1, by omega, by go_num, rfl, rfl, hI9⟩
      case measure => simp [intOf]; omega
    · as_aux_lemma =>
      have e : j = k := by omega
      subst e
      have HF : Hid (V p = some F) := hF
      have HQ : Hid (V q = some Q) := hQ
      have HFe : Hid (∀ a, F a = andF (d + 1) 0 a) := by rw [← Hk.out]; exact hFe
      have HQe : Hid (∀ a, Q a = parF (d + 1) 0 false a) := by rw [← Hk.out]; exact hQe
      have HO : Hid (∀ x, (V x).isSome = true → x = p ∨ x = q) := honly
      have HC1 : Hid (cnt F j 0 (fun _ => false) = 1) := by
        show _ = _
        rw [cnt_congr HFe.out, Hk.out]
        exact cnt_and _ _ _
      have HC2 : Hid (cnt Q j 0 (fun _ => false) = 2 ^ d) := by
        show _ = _
        rw [cnt_congr HQe.out, Hk.out]
        exact cnt_par _ _ _ _
      clear hF hQ hFe hQe honly
      go_wp2_with fail
      refine (size_call hS HF.out).mono ?_
      rintro e w4 ⟨hk4, c1, N1, last1, f1, rfl, hw1, _, ho1, hE1, hc1⟩
      rw [FV_first HOD.out] at hE1
      have hc1' : c1 = j := by
        obtain ⟨l, h1, h2, h3⟩ := and_list hw1 ho1 (fun a => by rw [hE1]; exact HFe.out a)
        rw [hc1 l h1 (by omega) h3, h2, Hk.out]
      subst hc1'
      clear hw1 ho1 hE1 hc1
      have hS4 := hS.keeps hk4
      clear hS
      go_wp2_with fail
      refine (size_call hS4 HQ.out).mono ?_
      rintro e w5 ⟨hk5, c2, N1, last1, f1, rfl, hw1, _, ho1, hE1, hc2⟩
      rw [FV_first HOD.out] at hE1
      have hc2' : c2 = 2 * d + 1 := by
        obtain ⟨l, h1, h2, h3, _⟩ := par_list hw1 ho1 (fun a => by rw [hE1]; exact HQe.out a)
        rw [hc2 l h1 (by omega) h3, h2]
      have b2 : (c2 : Int) = 2 * (c1 : Int) - 1 := by have := Hk.out; omega
      clear hw1 ho1 hE1 hc2 hc2'
      have hS5 := hS4.keeps hk5
      clear hS4
      go_wp2_with fail
      refine (nodes_call hS5).mono ?_
      rintro e w6 ⟨hk6, N1, last1, H, rfl, hw1, _, htr, hVH, hoH, hsz⟩
      have e0 := FV_first HOD.out N1
      have hsz' : sz = 3 * d + 1 := by
        obtain ⟨fp, e1, e2⟩ := St.has hVH HF.out
        obtain ⟨fq, e3, e4⟩ := St.has hVH HQ.out
        obtain ⟨l, h1, h2, h3⟩ := both_list hw1 (hoH p fp e1) (hoH q fq e3) (fun a => by rw [← e0, e2]; exact HFe.out a) (fun a => by rw [← e0, e4]; exact HQe.out a)
        rw [hsz l h1 (by omega) (fun x => ?_), h2]
        rw [← h3]
        constructor
        · rintro ⟨n, hn⟩
          obtain ⟨hh, ff, i1, i2⟩ := htr x n hn
          rcases HO.out hh (by rw [hVH, i1]; rfl) with e | e
          · subst e; rw [e1] at i1; cases i1; exact Or.inl i2
          · subst e; rw [e3] at i1; cases i1; exact Or.inr i2
        · rintro (hr | hr)
          · exact rch_some hr
          · exact rch_some hr
      have b3 : (sz : Int) = 3 * (c1 : Int) - 2 := by have := Hk.out; omega
      clear hw1 htr hVH hoH hsz hsz' e0
      have hS6 := hS5.keeps hk6
      clear hS5
      obtain ⟨u, hu⟩ : ∃ u, u = 2 ^ d := ⟨_, rfl⟩
      have b4 : ((u : Int) == wrap64 ((2 : Int) ^ (c1 - 1))) = true := by
        have e : c1 - 1 = d := by have := Hk.out; omega
        have h2 : 2 ^ d ≤ 2 ^ 7 := Nat.pow_le_pow_right (by omega) (by omega)
        have e2 : ((2 : Int) ^ d) = ((2 ^ d : Nat) : Int) := by simp
        rw [e, e2, ← hu]
        rw [← hu] at h2
        rw [IntWalk.wrap64_in _ ⟨by omega, by omega⟩]
        simp
      have b2' : ((c2 : Int) == 2 * (c1 : Int) - 1) = true := by simp [b2]
      clear b2
      have hc8 : (c1 : Int) ≤ 8 := by have := Hk.out; omega
      have hc1' : (1 : Int) ≤ (c1 : Int) := by have := Hk.out; omega
      by_cases e1 : (c1 : Int) = 1
      · have d1 : ((c1 : Int) == 1) = true := by simp [e1]
        have b3' : ((sz : Int) == 1) = true := by simp [b3, e1]
        clear b3 e1
        go_wp2_with fail
        refine (countc_any hS6 HF.out).mono ?_
        rintro e w7 ⟨rfl, hk7⟩
        rw [HC1.out]
        go_wp2_with fail
        refine (countc_any (hS6.keeps hk7) HQ.out).mono ?_
        rintro e w8 ⟨rfl, hk8⟩
        rw [HC2.out, ← hu]
        clear hu
        go_wp2_with fail
        go_ret
        exact ⟨rfl, ((((hkeep.trans hk4).trans hk5).trans hk6).trans hk7).trans hk8⟩
      · have d1 : ((c1 : Int) == 1) = false := by simp; omega
        have b3' : ((sz : Int) == (c1 : Int) + 2 * (c1 : Int) - 2) = true := by simp; omega
        clear b3 e1
        go_wp2_with fail
        refine (countc_any hS6 HF.out).mono ?_
        rintro e w7 ⟨rfl, hk7⟩
        rw [HC1.out]
        go_wp2_with fail
        refine (countc_any (hS6.keeps hk7) HQ.out).mono ?_
        rintro e w8 ⟨rfl, hk8⟩
        rw [HC2.out, ← hu]
        clear hu
        go_wp2_with fail
        go_ret
        exact ⟨rfl, ((((hkeep.trans hk4).trans hk5).trans hk6).trans hk7).trans hk8⟩

end Go.Proofs.Ytmgjegokkbghlaa
