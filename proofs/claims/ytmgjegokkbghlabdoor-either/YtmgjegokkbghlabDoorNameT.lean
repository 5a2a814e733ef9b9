/- pick and name, of the circuits that are handed in. -/
import Derived.Test.YtmgjegokkbghlabDoorTexts
import Derived.Test.YtmgjegokkbghlabDoorGatherC
namespace Go.Proofs.YtmgjegokkbghlabDoor
open Go.RowKit Go.Maps Circ Gram
set_option linter.unusedVariables false

def FitsI (x : Int) : Prop := -9223372036854775808 ≤ x ∧ x ≤ 9223372036854775807
def pickF (c n : Int) : Int := (if c < 0 then -(c + 1) else c) % n
theorem pickF_lt (c : Int) {n : Int} (hn : 0 < n) : 0 ≤ pickF c n ∧ pickF c n < n := ⟨Int.emod_nonneg _ (by omega), Int.emod_lt_of_pos _ hn⟩
theorem pickF_any {w : World} {c n : Int} (hc : FitsI c) (hn : 0 < n) (hn' : n ≤ 9223372036854775807) :
    Calls Tryd.prog 6 #[.int .i64 c, .int .i64 n] w fun e w' => e = .returned (.int .i64 (pickF c n)) ∧ w = w' := by
  unfold FitsI at hc
  by_cases h : c < 0
  · have hz : (n == 0) = false := by simp; omega
    go_enter Tryd.func6, Tryd.ntmps6
    go_wp2_with fail
    go_ret
    have e : -(c + 1).tmod n = (-(c + 1)) % n := by rw [← Int.neg_tmod, Int.tmod_eq_emod_of_nonneg (by omega)]
    have e' : Ending.returned (Value.int .i64 (-(c + 1).tmod n)) = Ending.returned (Value.int .i64 (pickF c n)) := by unfold pickF; rw [if_pos h, e]
    exact ⟨e', rfl⟩
  · have hz : (n == 0) = false := by simp; omega
    go_enter Tryd.func6, Tryd.ntmps6
    go_wp2_with fail
    go_ret
    refine ⟨?_, rfl⟩
    unfold pickF
    rw [if_neg (by omega)]
    rfl
theorem mk_app (a b : List UInt8) : mk a ++ mk b = mk (a ++ b) := by
  apply bl_ext
  show (mk a ++ mk b).data.toList = _
  rw [ByteArray.data_append, Array.toList_append]
  rfl

set_option maxRecDepth 100000 in
set_option maxHeartbeats 1000000 in
theorem name_any {w : World} {c : UInt8} {k : Nat} {more : Int} (hm : FitsI more) (hk : k < 5) {p : Nat} (hp : (p : Int) = pickF more 20) :
    Calls Tryd.prog 9 #[.string (mk [c]), .int .i64 (k : Int), .int .i64 more] w fun e w' => e = .returned (.string (mk (nmT c p k))) ∧ Keeps [] w w' := by
  have hpl := pickF_lt more (n := 20) (by omega)
  have HC := hid_intro (pickF_any (w := w) hm (n := 20) (by omega) (by omega))
  go_enter Tryd.func9, Tryd.ntmps9
  go_wp2_with fail
  refine Calls.mono HC.out ?_
  rintro e w1 ⟨rfl, rfl⟩
  rw [← hp] at hpl ⊢
  obtain ⟨bt, hbt⟩ : ∃ bt, bt = UInt8.ofNat (97 + p + k) := ⟨_, rfl⟩
  have HBt := hid_intro hbt
  have hcv : (convert 44 9 (.slice (some ⟨w.heap.size, 0, none⟩) 1 1)).run Tryd.prog (w.alloc (.cells #[.int .u8 (97 + (p : Int) + (k : Int))] 5)) = .ok (.string (mk [bt])) (w.alloc (.cells #[.int .u8 (97 + (p : Int) + (k : Int))] 5)) := by
    refine run_convert_bytes_back (P := Tryd.prog) _ 44 9 5 ⟨w.heap.size, 0, none⟩ 1 [bt] Tryd.underlying44 Tryd.underlying5 Tryd.underlying9 (fun j hj => ?_)
    obtain rfl : j = 0 := by simpa using hj
    show (w.alloc _).cell? ⟨w.heap.size, 0, none⟩ = _
    rw [World.cell?_alloc_at _ _ _ _ rfl]
    have hlt : 97 + p + k < 256 := by omega
    simp only [List.getElem_cons_zero, hbt, UInt8.toNat_ofNat']
    rw [Nat.mod_eq_of_lt (by omega)]
    simp
  clear HC hp hbt
  go_wp2_with fail
  rw [mk_app]
  go_ret
  have hbt := HBt.out
  have e : nmT c p k = [c] ++ [bt] := by unfold nmT; rw [hbt]; rfl
  rw [e]
  exact ⟨rfl, (Keeps.refl _ _).alloc _⟩

end Go.Proofs.YtmgjegokkbghlabDoor
