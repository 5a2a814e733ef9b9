/- The keys of a map; how many there are. -/
import Derived.Test.YtmgjegokkbghlaaGreatPerm
namespace Go.Proofs.YtmgjegokkbghlaaGreat
open Go.RowKit Go.Maps Bdd
open Go.WideElems (Fit rd rg rd_key rd_val rg_of)
attribute [local go_sem ↓] Go.wp_at_zero Go.wp_at_succ

/-- the keys of a map -/
theorem MapIs.keys {P : Program} {k : TypeId} {w : World} {b n : Nat} {G : Value → Option Value} (h : MapIs w P k b n G) (K : Keyed P k) :
    ∃ l : List Lit, l.Nodup ∧ l.length = n ∧ (∀ key kl, keyOf P k key = some kl → ((G key).isSome = true ↔ kl ∈ l)) ∧ ∀ kl ∈ l, ∃ key, keyOf P k key = some kl := by
  obtain ⟨D, hD, e1, hv⟩ := h
  have hD0 := hD
  obtain ⟨es, rfl, hp, _⟩ := hD.entries K
  have hkeys : ∀ kl ∈ es.map Prod.fst, ∃ key, keyOf P k key = some kl := by
    intro x hx
    obtain ⟨p, hpm, rfl⟩ := List.mem_map.1 hx
    obtain ⟨es0, clock, _, F, _, hE⟩ := hD0
    have hpm' : p ∈ (es0.toList.map (rg P k tok)).foldr DataW.insert [] := by cases hE; exact hpm
    obtain ⟨y, hy, rfl⟩ := List.mem_map.1 (mem_sorted.1 hpm')
    obtain ⟨z, hz⟩ := F.reads y hy
    have hkey := rd_key hz
    have hrg : (rg P k tok y).1 = z.1 := by rw [rg_of hz]
    exact ⟨y.key, by rw [hrg]; exact hkey⟩
  refine ⟨es.map Prod.fst, List.pairwise_map.2 hp, by rw [← e1]; simp [Maps.size], fun key kl hkey => ?_, hkeys⟩
  rw [← hv _ _ hkey, view_isSome hD]
  constructor
  · intro hh
    obtain ⟨q, hq, hqs⟩ := List.any_eq_true.1 hh
    rw [← WideAt.sameKey_eq hqs]
    exact List.mem_map.2 ⟨q, hq, rfl⟩
  · intro hh
    obtain ⟨p, hpm, rfl⟩ := List.mem_map.1 hh
    exact List.any_eq_true.2 ⟨_, hpm, WideAt.sameKey_self (K.key hkey)⟩

theorem nodesG_back {A : Tab} {key v : Value} (h : nodesG A key = some v) : ∃ f n, A f = some n ∧ key = .int .i64 f ∧ v = nodeV n := by
  unfold nodesG at h
  split at h
  · rename_i f
    obtain ⟨n, h1, h2⟩ := Option.map_eq_some_iff.1 h
    exact ⟨f, n, h1, rfl, h2.symm⟩
  · cases h

/-- a map of just these keys -/
theorem map_of (w : World) : ∀ l : List Int, l.Nodup → (∀ x ∈ l, Fits x) → l.length < 1000000 → ∃ (w' : World) (b : Nat) (G : Value → Option Value), MapIs w' Tryz.prog 95 b l.length G ∧ ∀ key, (G key).isSome = true ↔ ∃ x ∈ l, key = .int .i64 x
  | [], _, _, _ => ⟨_, _, _, MapIs.made w Tryz.prog 95, fun key => by simp⟩
  | x :: l, hd, hf, hn => by
    have hml : 1000000 < maxLen := by decide
    obtain ⟨h1, h2⟩ := List.nodup_cons.1 hd
    simp only [List.length_cons] at hn
    obtain ⟨w', b, G, hm, hG⟩ := map_of w l h2 (fun y hy => hf y (by simp [hy])) (by omega)
    obtain ⟨w2, _, hm2, _⟩ := hm.update lawFn Tryz.underlying154 (by omega) (keyFn (hf x (by simp))) (.int .i64 0)
    have hno : (G (.int .i64 x)).isSome = false := by
      cases hs : (G (.int .i64 x)).isSome with
      | false => rfl
      | true =>
        obtain ⟨y, hy, e⟩ := (hG _).1 hs
        simp at e
        subst e
        exact absurd hy h1
    rw [hno] at hm2
    refine ⟨w2, b, _, hm2, fun key => ?_⟩
    by_cases e : key = .int .i64 x
    · subst e
      rw [setG_same]
      simp
    · rw [setG_other _ _ e, hG key]
      constructor
      · rintro ⟨y, hy, rfl⟩; exact ⟨y, by simp [hy], rfl⟩
      · rintro ⟨y, hy, rfl⟩
        rcases List.mem_cons.1 hy with rfl | hy
        · exact absurd rfl e
        · exact ⟨y, hy, rfl⟩
theorem MapIs.count {w : World} {b n : Nat} {G : Value → Option Value} (h : MapIs w Tryz.prog 95 b n G) (l : List Int) (hd : l.Nodup) (hf : ∀ x ∈ l, Fits x) (hn : l.length < 1000000) (hG : ∀ key, (G key).isSome = true ↔ ∃ x ∈ l, key = .int .i64 x) : n = l.length := by
  obtain ⟨w', b', G', hm, hG'⟩ := map_of w l hd hf hn
  have h1 := h.size_le hm lawFn (fun key hk => (hG' key).2 ((hG key).1 hk))
  have h2 := hm.size_le h lawFn (fun key hk => (hG key).2 ((hG' key).1 hk))
  omega

theorem Bdd.Wf.fitsN {N : Tab} {top last : Int} (hw : Wf N top last) (hbig : last ≤ 4611686018427387904) : ∀ f n, N f = some n → Fits f ∧ Fits n.lv ∧ Fits n.lo ∧ Fits n.hi := by
  intro f n hn
  have h1 := hw.range f n hn
  have h2 := hw.lv f n hn
  have h3 := hw.tops
  have okf : ∀ {k x : Int}, Ok N k x → Fits x := by
    intro k x hx
    rcases hx with rfl | rfl | ⟨m, hm, _⟩
    · unfold Fits; omega
    · unfold Fits; omega
    · have := hw.range x m hm; unfold Fits; omega
  exact ⟨by unfold Fits; omega, by unfold Fits; omega, okf (hw.lo f n hn), okf (hw.hi f n hn)⟩

end Go.Proofs.YtmgjegokkbghlaaGreat
