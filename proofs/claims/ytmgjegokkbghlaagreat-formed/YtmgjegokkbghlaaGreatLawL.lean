/- The script as it comes in. -/
import Derived.Test.YtmgjegokkbghlaaGreatLawK
import Derived.ChangeArms
import Derived.ChangeSame
import Derived.SizedLaws
import Derived.OpenShut
namespace Go.Proofs.YtmgjegokkbghlaaGreat
open Go.RowKit Go.Maps Bdd
set_option linter.unusedVariables false

section
variable {H : Type} {enc : TypeId × Value → H} {W : World}

theorem cellsInt : Tryz.prog.cellsOf 3 = 1 := by kernel_rfl
theorem cellsBool : Tryz.prog.cellsOf 4 = 1 := by kernel_rfl
theorem cellsInts : Tryz.prog.cellsOf 31 = 1 := by kernel_rfl
theorem cellsBools : Tryz.prog.cellsOf 32 = 1 := by kernel_rfl
theorem cellsOp : Tryz.prog.cellsOf 34 = 7 := by kernel_rfl
theorem bytesOp : Tryz.prog.bytesOf 34 = 88 := by kernel_rfl
theorem bytesBool : Tryz.prog.bytesOf 4 = 1 := by kernel_rfl

theorem add_none (a : Addr) : a.add 0 = a := by simp [Addr.add]
theorem at_plain {w : World} {a : Addr} {v : Value} (h : w.cell? (a.add 0) = some v) : ∃ b off, a = ⟨b, off, none⟩ := by
  rw [add_none] at h
  obtain ⟨b, off, spot⟩ := a
  have hspot : spot = none := by simpa using World.cell?_spot h
  subst hspot
  exact ⟨b, off, rfl⟩

/-- a list of truth values, as it comes in -/
theorem open_truths {fuel : Nat} {c : Value} {x : DataW H × List MemPlace} (h : DataW.trod enc Tryz.prog W 0 (fun _ => true) true fuel 32 [c] = some x) (hw : ∀ n ∈ x.1.weights Tryz.prog 32, n ≤ reachBytes) :
    ∃ va vn vc f, c = .slice va vn vc ∧ vn ≤ 140737488351232 ∧ TruthsIn W va vn f := by
  rcases DataW.trod_slice Tryz.underlying32 h with ⟨hcs, hx⟩ | ⟨ad, len, cap, elems, rest, n, _, hcs, hx, hb, hlc, hcm, hel, hcells, hsp, _⟩
  · simp at hcs
    exact ⟨none, 0, 0, fun _ => false, hcs, by omega, Or.inl rfl⟩
  · simp at hcs
    have hsz : (elems.length + rest.length) * 1 ≤ reachBytes := by
      refine hw _ ?_
      rw [hx]
      simp only [DataW.weights, Tryz.underlying32, bytesBool, List.length_map]
      exact List.mem_cons_self ..
    have hrb : reachBytes = 140737488351232 := by decide
    have hbool : ∀ i, i < len → ∃ b, W.cell? (ad.add i) = some (.bool b) := by
      intro i hi
      have hc := hcells i hi
      rw [List.getElem?_eq_getElem (by omega), cellsBool, Nat.mul_one] at hc
      obtain ⟨cs, h1, h2⟩ := Option.bind_eq_some_iff.1 hc
      obtain ⟨_, hl, hcell⟩ := World.cells?_some h1
      obtain ⟨b, hcs', _⟩ := DataW.trod_bool Tryz.underlying4 h2
      have h3 := hcell 0 (by omega)
      rw [hcs'] at h3
      refine ⟨b, ?_⟩
      rw [add_none] at h3
      simpa using h3
    by_cases h0 : len = 0
    · exact ⟨some ad, len, cap, fun _ => false, hcs, by omega, Or.inl h0⟩
    · obtain ⟨b0, hb0⟩ := hbool 0 (by omega)
      obtain ⟨b, off, rfl⟩ := at_plain hb0
      refine ⟨some ⟨b, off, none⟩, len, cap, fun i => if hi : i < len then (hbool i hi).choose else false, hcs, by omega, Or.inr ⟨b, off, rfl, fun i hi => ?_⟩⟩
      simp only [hi, dif_pos]
      rw [← Addr.add_mid]
      exact (hbool i hi).choose_spec

theorem fitsOf {x : Int} (h : (Lit.int .i64 x).wf = true) : Fits x := by
  have := bounds_i64 h
  unfold Fits; omega

theorem weights_all {P : Program} {e : TypeId} : ∀ {l : List (DataW H)} {d : DataW H}, d ∈ l → ∀ n ∈ d.weights P e, n ∈ DataW.weightsAll P e l
  | y :: r, d, hd, n, hn => by
    simp only [DataW.weightsAll, List.mem_append]
    rcases List.mem_cons.1 hd with rfl | hd
    · exact Or.inl hn
    · exact Or.inr (weights_all hd n hn)

/-- THE SCRIPT, AS IT COMES IN -/
theorem open_ops {a : Option Addr} {len cap fuel : Nat} {x : DataW H × List MemPlace} (h : DataW.trod enc Tryz.prog W 0 (fun _ => true) true fuel 22 [.slice a len cap] = some x) (hw : ∀ n ∈ x.1.weights Tryz.prog 22, n ≤ reachBytes) : ScriptIn W a len ∧ len ≤ 1600000000000 := by
  rcases DataW.trod_slice Tryz.underlying22 h with ⟨hcs, hx⟩ | ⟨ad, len', cap', elems, rest, n, _, hcs, hx, hb, hlc, hcm, hel, hcells, hsp, _⟩
  · simp at hcs
    exact ⟨Or.inl hcs.2.1, by omega⟩
  · simp at hcs
    obtain ⟨rfl, rfl, rfl⟩ := hcs
    have hrb : reachBytes = 140737488351232 := by decide
    have hsz : (elems.length + rest.length) * 88 ≤ reachBytes := by
      refine hw _ ?_
      rw [hx]
      simp only [DataW.weights, Tryz.underlying22, bytesOp, List.length_map]
      exact List.mem_cons_self ..
    refine ⟨?_, by omega⟩
    by_cases h0 : len = 0
    · exact Or.inl h0
    have key : ∀ j, j < len → ∃ cs, W.cells? 0 (ad.add (j * 7)) 7 = some cs ∧ ∃ e, elems[j]? = some e ∧ DataW.trod enc Tryz.prog W 0 (fun _ => true) true n 34 cs = some e := by
      intro j hj
      have hc := hcells j hj
      rw [cellsOp] at hc
      rw [List.getElem?_eq_getElem (by omega)] at hc
      obtain ⟨cs, h1, h2⟩ := Option.bind_eq_some_iff.1 hc
      exact ⟨cs, h1, _, List.getElem?_eq_getElem (by omega), h2⟩
    obtain ⟨cs0, hcs0, _⟩ := key 0 (by omega)
    obtain ⟨_, hl0, hcell0⟩ := World.cells?_some hcs0
    have hc00 := hcell0 0 (by omega)
    rw [List.getElem?_eq_getElem (by omega), Nat.zero_mul] at hc00
    rw [add_none] at hc00
    obtain ⟨sb, so, rfl⟩ := at_plain hc00
    refine Or.inr ⟨sb, so, rfl, fun j hj => ?_⟩
    obtain ⟨cs, hcs, e, he, htr⟩ := key j hj
    obtain ⟨_, hl, hcell⟩ := World.cells?_some hcs
    obtain ⟨xs, m, _, hxe, hlen, hxl, hf⟩ := DataW.trod_struct Tryz.underlying34 htr
    have hxl7 : xs.length = 7 := hxl
    have hin : e.1 ∈ elems.map (·.1) := List.mem_map.2 ⟨e, List.mem_of_getElem? he, rfl⟩
    have hwe : ∀ n ∈ e.1.weights Tryz.prog 34, n ≤ reachBytes := fun n hn => by
      refine hw n ?_
      rw [hx]
      simp only [DataW.weights, Tryz.underlying22]
      exact List.mem_cons_of_mem _ (List.mem_append_left _ (weights_all hin n hn))
    have hcj : ∀ i, i < 7 → W.cell? ⟨sb, so + j * 7 + i, none⟩ = cs[i]? := fun i hi => by
      have := hcell i hi
      rw [Addr.add_mid, Addr.add_mid] at this
      exact this
    have hint : ∀ i, i < 5 → ∃ z, cs[i]? = some (.int .i64 z) ∧ Fits z := by
      intro i hi
      have hfi : ∃ fd : Field, fd.type = 3 ∧ fd.offset = i ∧ DataW.trod enc Tryz.prog W 0 (fun _ => true) true m fd.type ((cs.drop fd.offset).take (Tryz.prog.cellsOf fd.type)) = xs[i]? := by
        match i, hi with
        | 0, _ => exact ⟨_, rfl, rfl, hf 0 _ rfl⟩
        | 1, _ => exact ⟨_, rfl, rfl, hf 1 _ rfl⟩
        | 2, _ => exact ⟨_, rfl, rfl, hf 2 _ rfl⟩
        | 3, _ => exact ⟨_, rfl, rfl, hf 3 _ rfl⟩
        | 4, _ => exact ⟨_, rfl, rfl, hf 4 _ rfl⟩
      obtain ⟨fd, t3, of, ht⟩ := hfi
      rw [t3, of, cellsInt, List.getElem?_eq_getElem (show i < xs.length by omega)] at ht
      obtain ⟨z, hz, _, hwf⟩ := DataW.trod_int Tryz.underlying3 ht
      refine ⟨z, ?_, fitsOf hwf⟩
      have : ((cs.drop i).take 1)[0]? = some (.int .i64 z) := by rw [hz]; rfl
      simpa using this
    have h5 : DataW.trod enc Tryz.prog W 0 (fun _ => true) true m 31 ((cs.drop 5).take (Tryz.prog.cellsOf 31)) = xs[5]? := hf 5 _ rfl
    rw [List.getElem?_eq_getElem (show 5 < xs.length by omega), cellsInts] at h5
    have h6 : DataW.trod enc Tryz.prog W 0 (fun _ => true) true m 32 ((cs.drop 6).take (Tryz.prog.cellsOf 32)) = xs[6]? := hf 6 _ rfl
    rw [List.getElem?_eq_getElem (show 6 < xs.length by omega), cellsBools] at h6
    obtain ⟨k, k1, k2⟩ := hint 0 (by omega)
    obtain ⟨mm, m1, m2⟩ := hint 1 (by omega)
    obtain ⟨aa, a1, a2⟩ := hint 2 (by omega)
    obtain ⟨bb, b1, b2⟩ := hint 3 (by omega)
    obtain ⟨cc, c1, c2⟩ := hint 4 (by omega)
    have hlist : ∀ i (hi : i < cs.length), (cs.drop i).take 1 = [cs[i]] := fun i hi => by
      rw [List.drop_eq_getElem_cons hi]
      rfl
    rw [hlist 5 (by omega)] at h5
    rw [hlist 6 (by omega)] at h6
    obtain ⟨la, ln, lc, hL⟩ : ∃ la ln lc, cs[5]'(by omega) = .slice la ln lc := by
      rcases DataW.trod_slice Tryz.underlying31 h5 with ⟨hcs, _⟩ | ⟨ad, len, cap, _, _, _, _, hcs, _⟩
      · simp at hcs; exact ⟨_, _, _, hcs⟩
      · simp at hcs; exact ⟨_, _, _, hcs⟩
    obtain ⟨va, vn, vc, f, hV, hvn, hT⟩ := open_truths h6 (fun n hn => hwe n (by
      rw [hxe]
      simp only [DataW.weights, Tryz.underlying34]
      exact DataW.weights_mem_each (j := 6) (t := 32) rfl (by simp [hxl7]) n hn))
    have g5 : cs[5]? = some (.slice la ln lc) := by rw [List.getElem?_eq_getElem (by omega), hL]
    have g6 : cs[6]? = some (.slice va vn vc) := by rw [List.getElem?_eq_getElem (by omega), hV]
    exact ⟨k, mm, aa, bb, cc, la, ln, lc, va, vn, vc, f, (hcj 0 (by omega)).trans k1, (hcj 1 (by omega)).trans m1, (hcj 2 (by omega)).trans a1, (hcj 3 (by omega)).trans b1, (hcj 4 (by omega)).trans c1, (hcj 5 (by omega)).trans g5, (hcj 6 (by omega)).trans g6, k2, m2, a2, b2, c2, hvn, hT⟩
end

end Go.Proofs.YtmgjegokkbghlaaGreat
