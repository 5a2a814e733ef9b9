/- Ranges over a map of nodes; sizes of the two maps; the walks of take, cross. -/
import Derived.Test.YtbfmekddfibciaaExch
import Derived.Test.YtbfmekddfibciaaPerm
namespace Go.Proofs.Ytbfmekddfibciaa
open Go.RowKit Go.Maps Bdd
open Go.WideElems (Fit rd rg rd_key rd_val rg_of)
attribute [local go_sem ↓] Go.wp_at_zero Go.wp_at_succ

/-- the keys of a map -/
theorem MapIs.keys {P : Program} {k : TypeId} {w : World} {b n : Nat} {G : Value → Option Value} (h : MapIs w P k b n G) (K : Keyed P k) :
    ∃ l : List Lit, l.Nodup ∧ l.length = n ∧ (∀ key kl, keyOf P k key = some kl → ((G key).isSome = true ↔ kl ∈ l)) ∧ ∀ kl ∈ l, ∃ key, keyOf P k key = some kl := by
  obtain ⟨D, hD, e1, hv⟩ := h
  have hD0 := hD
  obtain ⟨es, rfl, hp, _⟩ := hD.entries K
  have hkeys : ∀ kl ∈ es.map Prod.fst, ∃ key, keyOf P k key = some kl := by
    intro x hx
    obtain ⟨p, hpm, rfl⟩ := List.mem_map.1 hx
    obtain ⟨es0, clock, _, F, _, hE⟩ := hD0
    have hpm' : p ∈ (es0.toList.map (rg P k tok)).foldr DataW.insert [] := by cases hE; exact hpm
    obtain ⟨y, hy, rfl⟩ := List.mem_map.1 (mem_sorted.1 hpm')
    obtain ⟨z, hz⟩ := F.reads y hy
    have hkey := rd_key hz
    have hrg : (rg P k tok y).1 = z.1 := by rw [rg_of hz]
    exact ⟨y.key, by rw [hrg]; exact hkey⟩
  refine ⟨es.map Prod.fst, List.pairwise_map.2 hp, by rw [← e1]; simp [Maps.size], fun key kl hkey => ?_, hkeys⟩
  rw [← hv _ _ hkey, view_isSome hD]
  constructor
  · intro hh
    obtain ⟨q, hq, hqs⟩ := List.any_eq_true.1 hh
    rw [← WideAt.sameKey_eq hqs]
    exact List.mem_map.2 ⟨q, hq, rfl⟩
  · intro hh
    obtain ⟨p, hpm, rfl⟩ := List.mem_map.1 hh
    exact List.any_eq_true.2 ⟨_, hpm, WideAt.sameKey_self (K.key hkey)⟩

theorem namesG_inj {A : Tab} (hu : ∀ f g m, A f = some m → A g = some m → f = g) {f : Int} {n : Nd} (h : A f = some n) : namesG A (nodeV n) = some (.int .i64 f) := by
  have hex : ∃ f' n', A f' = some n' ∧ nodeV n = nodeV n' := ⟨f, n, h, rfl⟩
  unfold namesG
  rw [dif_pos hex]
  obtain ⟨n', h1, h2⟩ := hex.choose_spec
  have := nodeV_inj h2
  subst this
  rw [hu _ f n h1 h]
theorem namesG_back {A : Tab} (hu : ∀ f g m, A f = some m → A g = some m → f = g) {key v : Value} (h : namesG A key = some v) : ∃ f n, A f = some n ∧ key = nodeV n ∧ v = .int .i64 f := by
  unfold namesG at h
  split at h
  · rename_i hex
    obtain ⟨f, n, h1, h2⟩ := hex
    have : namesG A (nodeV n) = some (.int .i64 f) := namesG_inj hu h1
    refine ⟨f, n, h1, h2, ?_⟩
    unfold namesG at this
    rw [dif_pos ⟨f, n, h1, rfl⟩] at this
    cases h
    subst h2
    exact Option.some.inj this
  · cases h
theorem nodesG_back {A : Tab} {key v : Value} (h : nodesG A key = some v) : ∃ f n, A f = some n ∧ key = .int .i64 f ∧ v = nodeV n := by
  unfold nodesG at h
  split at h
  · rename_i f
    obtain ⟨n, h1, h2⟩ := Option.map_eq_some_iff.1 h
    exact ⟨f, n, h1, rfl, h2.symm⟩
  · cases h

/-- both maps of a table have as many entries -/
theorem same_size {w w' : World} {bn bm n1 n2 : Nat} {A : Tab} (hu : ∀ f g m, A f = some m → A g = some m → f = g) (hf : ∀ f m, A f = some m → Fits f ∧ Fits m.lv ∧ Fits m.lo ∧ Fits m.hi) (h1 : MapIs w Try.prog 115 bn n1 (namesG A)) (h2 : MapIs w' Try.prog 69 bm n2 (nodesG A)) : n1 = n2 := by
  classical
  obtain ⟨l1, d1, e1, k1, q1⟩ := h1.keys lawNode
  obtain ⟨l2, d2, e2, k2, q2⟩ := h2.keys lawFn
  have a1 : ∀ kl ∈ l1, ∃ f n, A f = some n ∧ keyOf Try.prog 115 (nodeV n) = some kl := by
    intro kl hkl
    obtain ⟨key, hkey⟩ := q1 kl hkl
    obtain ⟨v, hv⟩ := Option.isSome_iff_exists.1 ((k1 key kl hkey).2 hkl)
    obtain ⟨f, n, r1, r2, _⟩ := namesG_back hu hv
    exact ⟨f, n, r1, by rw [← r2]; exact hkey⟩
  have a2 : ∀ kl ∈ l2, ∃ f n, A f = some n ∧ keyOf Try.prog 69 (.int .i64 f) = some kl := by
    intro kl hkl
    obtain ⟨key, hkey⟩ := q2 kl hkl
    obtain ⟨v, hv⟩ := Option.isSome_iff_exists.1 ((k2 key kl hkey).2 hkl)
    obtain ⟨f, n, r1, r2, _⟩ := nodesG_back hv
    exact ⟨f, n, r1, by rw [← r2]; exact hkey⟩
  have b1 : ∀ f n, A f = some n → ∃ kl, keyOf Try.prog 115 (nodeV n) = some kl ∧ kl ∈ l1 := by
    intro f n hfn
    obtain ⟨_, z1, z2, z3⟩ := hf f n hfn
    obtain ⟨kl, hkl⟩ := key130 z1 z2 z3
    exact ⟨kl, hkl, (k1 _ kl hkl).1 (by show (namesG A (nodeV n)).isSome = true; rw [namesG_inj hu hfn]; rfl)⟩
  have b2 : ∀ f n, A f = some n → ∃ kl, keyOf Try.prog 69 (.int .i64 f) = some kl ∧ kl ∈ l2 := by
    intro f n hfn
    have hkl := keyFn (hf f n hfn).1
    exact ⟨_, hkl, (k2 _ _ hkl).1 (by simp [nodesG, hfn])⟩
  rw [← e1, ← e2]
  refine Nat.le_antisymm (map_le (fun kl => if h : kl ∈ l1 then (b2 _ _ (a1 kl h).choose_spec.choose_spec.1).choose else kl) d1 ?_ ?_) (map_le (fun kl => if h : kl ∈ l2 then (b1 _ _ (a2 kl h).choose_spec.choose_spec.1).choose else kl) d2 ?_ ?_)
  · intro x hx y hy e
    simp only [hx, hy, dif_pos] at e
    have p1 := (b2 _ _ (a1 x hx).choose_spec.choose_spec.1).choose_spec.1
    have p2 := (b2 _ _ (a1 y hy).choose_spec.choose_spec.1).choose_spec.1
    rw [e] at p1
    have p3 := lawFn.inj p1 p2
    have p4 := (a1 x hx).choose_spec.choose_spec
    have p5 := (a1 y hy).choose_spec.choose_spec
    simp only [Value.int.injEq, true_and] at p3
    have p8 := Option.some.inj ((p4.1).symm.trans ((congrArg A p3).trans p5.1))
    exact Option.some.inj (p4.2.symm.trans ((congrArg (fun n => keyOf Try.prog 115 (nodeV n)) p8).trans p5.2))
  · intro x hx
    simp only [hx, dif_pos]
    exact (b2 _ _ (a1 x hx).choose_spec.choose_spec.1).choose_spec.2
  · intro x hx y hy e
    simp only [hx, hy, dif_pos] at e
    have p1 := (b1 _ _ (a2 x hx).choose_spec.choose_spec.1).choose_spec.1
    have p2 := (b1 _ _ (a2 y hy).choose_spec.choose_spec.1).choose_spec.1
    rw [e] at p1
    have p3 := nodeV_inj (lawNode.inj p1 p2)
    have p4 := (a2 x hx).choose_spec.choose_spec
    have p5 := (a2 y hy).choose_spec.choose_spec
    have p7 := hu _ _ _ (p4.1.trans (congrArg some p3)) p5.1
    exact Option.some.inj (p4.2.symm.trans ((congrArg (fun f => keyOf Try.prog 69 (Value.int .i64 f)) p7).trans p5.2))
  · intro x hx
    simp only [hx, dif_pos]
    exact (b1 _ _ (a2 x hx).choose_spec.choose_spec.1).choose_spec.2

section
variable {P : Program} (w : World) {ops : Array Oper} {rest : List Oper} {o : Oper} {a : Act} {Q : Exit → Act → World → Prop}
/-- THE STEP of a range over keys of any type. -/
theorem wpList_nextAny (hg : o.guard = none) (it : Operand) (hop : o.op = Op.next it false) (k : TypeId) (K : Keyed P k) (b r n : Nat) (G : Value → Option Value) (left : Value → Bool) (cnt : Nat)
    (hit : a.eval it = .pointer (some ⟨r, 0, none⟩)) (h : RangeIs w P k b r n G left cnt)
    (hDone : cnt = 0 → (∀ x kl, keyOf P k x = some kl → left x = false) → wpList P ops Q rest (a.put o.dst (.tuple #[.bool false])) w)
    (hMore : ∀ (key v : Value) (kl : Lit) (w' : World) (cnt' : Nat), keyOf P k key = some kl → left key = true → G key = some v → RangeIs w' P k b r n G (strike left key) cnt' → cnt' < cnt →
      w.grownBy w' (some r) → w'.heap.size = w.heap.size → (Instr.entry (.pointer (some ⟨r, 0, none⟩))).run P w' = .ok (.tuple #[key, v]) w' → wpList P ops Q rest (a.put o.dst (.tuple #[.bool true, key, v])) w') :
    wpList P ops Q (o :: rest) a w := by
  obtain ⟨D, lf, hrg, hs, hv, hl⟩ := h
  refine wpList_plain hg fun K' hK' => ?_
  unfold Oper.wp
  rcases hrg.next K o.type with ⟨h0, hlf, hrun⟩ | ⟨key, v, kl, y, w', cnt', hkey, hlk, hvv, hat, hrun, hrg', hlt, hgr, hsz, hen⟩
  · simp [execOp, hop, hit, hrun, Result.andThen]
    exact hK' _ _ (hDone h0 (fun x kl hkx => by rw [← hl _ _ hkx]; exact hlf _))
  · have hy : y.1 = .held v := by obtain ⟨y1, y2⟩ := y; exact tok_eq hvv
    have hG : G key = some v := by
      rw [← hv _ _ hkey]
      exact view_some (has_true_of_atKey hat) (by rw [hat]; exact hy)
    simp [execOp, hop, hit, hrun, Result.andThen]
    refine hK' _ _ (hMore key v kl w' cnt' hkey (by rw [← hl _ _ hkey]; exact hlk) hG ⟨D, _, hrg', hs, hv, fun key' kl' hkey' => ?_⟩ hlt hgr hsz hen)
    by_cases e : kl' = kl
    · subst e
      have := K.inj hkey' hkey
      subst this
      rw [strike_same, WideAt.sameKey_self (K.key hkey)]
      simp
    · rw [strike_other _ (fun e' => e (by rw [e', hkey] at hkey'; cases hkey'; rfl)), sameKey_ne e, hl _ _ hkey']
      simp
end
theorem RangeIs.congr {P : Program} {k : TypeId} {w : World} {b r n : Nat} {G G' : Value → Option Value} {left : Value → Bool} {cnt : Nat} (h : RangeIs w P k b r n G left cnt) (hG : ∀ x kl, keyOf P k x = some kl → G x = G' x) : RangeIs w P k b r n G' left cnt := by
  obtain ⟨D, lf, hrg, hs, hv, hl⟩ := h
  exact ⟨D, lf, hrg, hs, fun key kl hk => (hv key kl hk).trans (hG key kl hk), hl⟩

end Go.Proofs.Ytbfmekddfibciaa
