/- The walks of single, chain, parse: the descent. -/
import Derived.Test.YtmgjegokkbghlaaGreatDoorParse
namespace Go.Proofs.YtmgjegokkbghlaaGreatDoor
open Go.RowKit Go.Maps Gram Circ
set_option linter.unusedVariables false

theorem ReadIs.no {w0 w' : World} {P : Nat} {ws made : List W} {e : Ending} (h : ReadIs w0 P ws made none e w') : e = .returned (.bool false) ∧ ∃ ws' made', Prs w0 P w' ws' made' ∧ made'.length + ws'.length ≤ made.length + ws.length ∧ ws'.length ≤ ws.length ∧ (∀ y ∈ ws', y ∈ ws) := by
  obtain ⟨h1, ws', made', h2, h3, h4, h5, _⟩ := h
  exact ⟨h1, ws', made', h2, h3, h4, h5⟩
theorem ReadIs.yes {w0 w' : World} {P : Nat} {ws made r : List W} {ex : Ex} {e : Ending} (h : ReadIs w0 P ws made (some (ex, r)) e w') : e = .returned (.bool true) ∧ Prs w0 P w' r (made ++ ex.post) ∧ (made ++ ex.post).length + r.length ≤ made.length + ws.length ∧ r.length ≤ ws.length ∧ (∀ y ∈ r, y ∈ ws) := by
  obtain ⟨h1, ws', made', h2, h3, h4, h5, h6⟩ := h
  obtain ⟨rfl, rfl⟩ := h6 ex r rfl
  exact ⟨h1, h2, h3, h4, h5⟩
theorem ReadIs.mkNo {w0 w' : World} {P : Nat} {ws made ws' made' : List W} {res : Option (Ex × List W)} (hr : res = none) (h : Prs w0 P w' ws' made') (h1 : made'.length + ws'.length ≤ made.length + ws.length) (h2 : ws'.length ≤ ws.length) (h3 : ∀ y ∈ ws', y ∈ ws) : ReadIs w0 P ws made res (.returned (.bool false)) w' := by
  subst hr
  exact ⟨rfl, ws', made', h, h1, h2, h3, fun _ _ h => by cases h⟩
theorem ReadIs.mkYes {w0 w' : World} {P : Nat} {ws made r made' : List W} {ex : Ex} {res : Option (Ex × List W)} (hr : res = some (ex, r)) (hm : made' = made ++ ex.post) (h : Prs w0 P w' r made') (h1 : made'.length + r.length ≤ made.length + ws.length) (h2 : r.length ≤ ws.length) (h3 : ∀ y ∈ r, y ∈ ws) : ReadIs w0 P ws made res (.returned (.bool true)) w' := by
  subst hr
  exact ⟨rfl, r, made', h, h1, h2, h3, fun _ _ h => by cases h; exact ⟨rfl, hm⟩⟩

def btw : Nat → ByteArray
  | 0 => ⟨#[124, 94, 38]⟩
  | 1 => ⟨#[94, 38]⟩
  | 2 => ⟨#[38]⟩
  | _ => ⟨#[]⟩

def ChainSaid (n : Nat) : Prop := ∀ (w0 w : World) (P : Nat) (ws made : List W) (k d : Nat), Prs w0 P w ws made → made.length + ws.length ≤ 5000 → (∀ x ∈ ws, 0 < ByteArray.size x) → k ≤ 3 → d ≤ 8 → 4 * ws.length + (3 - k) < n →
  Calls Tryz.prog 199 #[.pointer (some ⟨P, 0, none⟩), .string (btw k), .int .i64 (8 - (d : Int))] w fun e w' => ReadIs w0 P ws made (chainF n k d ws) e w'
def SingleSaid (n : Nat) : Prop := ∀ (w0 w : World) (P : Nat) (ws made : List W) (d : Nat), Prs w0 P w ws made → made.length + ws.length ≤ 5000 → (∀ x ∈ ws, 0 < ByteArray.size x) → d ≤ 8 → 4 * ws.length < n →
  Calls Tryz.prog 207 #[.pointer (some ⟨P, 0, none⟩), .int .i64 (8 - (d : Int))] w fun e w' => ReadIs w0 P ws made (chainF n 3 d ws) e w'

theorem sing_nil (n d : Nat) : chainF (n + 1) 3 d [] = none := by unfold chainF; rfl
theorem sing_bang0 (n : Nat) (r : List W) : chainF (n + 1) 3 0 (bang :: r) = none := by unfold chainF; simp
theorem sing_bang (n d : Nat) (r : List W) : chainF (n + 1) 3 (d + 1) (bang :: r) = match chainF n 3 d r with
    | none => none
    | some (e, r') => some (.no e, r') := by
  conv => lhs; unfold chainF
  simp
  rfl
theorem sing_open0 (n : Nat) (r : List W) : chainF (n + 1) 3 0 (opn :: r) = none := by
  have : opn ≠ bang := fun h => consts_ne.1 h.symm
  unfold chainF; simp [this]
theorem sing_open (n d : Nat) (r : List W) : chainF (n + 1) 3 (d + 1) (opn :: r) = match chainF n 0 d r with
    | some (e, y :: r') => if y = cls then some (e, r') else none
    | _ => none := by
  have : opn ≠ bang := fun h => consts_ne.1 h.symm
  conv => lhs; unfold chainF
  simp [this]
  rfl
theorem sing_else (n d : Nat) {x : W} (r : List W) (h1 : x ≠ bang) (h2 : x ≠ opn) : chainF (n + 1) 3 d (x :: r) = valueW (x :: r) := by
  unfold chainF valueW
  simp [h1, h2]
theorem takeW_cons {x : W} {r : List W} : takeW x (x :: r) = some r := by simp [takeW]
theorem takeW_ne {x y : W} {r : List W} (h : y ≠ x) : takeW x (y :: r) = none := by simp [takeW, h]

set_option maxRecDepth 100000 in
set_option maxHeartbeats 1000000 in
theorem single_bang0 {w0 w : World} {P : Nat} {r made : List W} (n : Nat) (h : Prs w0 P w (bang :: r) made) (hfew : made.length + (bang :: r).length ≤ 5000) :
    Calls Tryz.prog 207 #[.pointer (some ⟨P, 0, none⟩), .int .i64 8] w fun e w' => ReadIs w0 P (bang :: r) made (chainF (n + 1) 3 0 (bang :: r)) e w' := by
  obtain ⟨i0, hi0, hz0, hz1, hz2⟩ := info_parts infoStr
  have hml : 2000000 < maxLen := by decide
  have hsz := h.keeps.size
  have hlt := h.lt
  have hf : made.length + (r.length + 1) ≤ 5000 := by simpa using hfew
  have HT : Hid (Calls Tryz.prog 208 #[.pointer (some ⟨P, 0, none⟩), .string ⟨#[33]⟩] w fun e w' => e = .returned (.bool true) ∧ Prs w0 P w' r made) := take_yes (x := bang) h takeW_cons
  have HR : Hid (chainF (n + 1) 3 0 (bang :: r) = none) := sing_bang0 n r
  clear hfew h
  go_enter Tryz.func207, Tryz.ntmps207
  go_wp2_with (first
    | (go_at_call 208; refine HT.out.mono ?_; rintro e w1 ⟨rfl, hP1⟩; have hsz1 := hP1.keeps.size; have f1 := hP1.f1; obtain ⟨m, hmc, hmo⟩ := hP1.mades)
    | (at_builtin; refine wpList_append_own_at _ rfl _ _ 50 rfl w0.heap.size 9 i0 (.string ByteArray.empty) 1 16 Tryz.underlying50 hi0 hz0 hz1 hz2 rfl (by decide) _ made.length (made.map Value.string) rfl (hmo.alloc _) ⟨w1.heap.size, 0, none⟩ 1 1 [.string ⟨#[33]⟩] rfl rfl (cell_one_new _ _ _) (by simp [Value.oneCell']) (by omega) (by omega) (by simp; omega) ?_; intro v' w2 hown' hgrow hnil hloc; obtain ⟨g', cap', rfl⟩ := own_slice hown'; obtain ⟨hP2, hcs, g0', g1'⟩ := hP1.append (x := bang) hmc hown' hgrow (fun k hk' => (hmo.lt k hk').1); have c1' := hcs _ _ _ hlt hmc; clear hcs)
    | fail)
  go_ret
  exact ReadIs.mkNo HR.out hP2 (by simp; omega) (by simp) (fun y hy => by simp [hy])

set_option maxRecDepth 100000 in
set_option maxHeartbeats 1000000 in
theorem single_bang {w0 w : World} {P : Nat} {r made : List W} (n d : Nat) (IH : SingleSaid n) (h : Prs w0 P w (bang :: r) made) (hfew : made.length + (bang :: r).length ≤ 5000) (hpos : ∀ x ∈ bang :: r, 0 < ByteArray.size x) (hd : d + 1 ≤ 8) (hn : 4 * (bang :: r).length < n + 1) :
    Calls Tryz.prog 207 #[.pointer (some ⟨P, 0, none⟩), .int .i64 (8 - ((d + 1 : Nat) : Int))] w fun e w' => ReadIs w0 P (bang :: r) made (chainF (n + 1) 3 (d + 1) (bang :: r)) e w' := by
  obtain ⟨i0, hi0, hz0, hz1, hz2⟩ := info_parts infoStr
  have hml : 2000000 < maxLen := by decide
  have hsz := h.keeps.size
  have hlt := h.lt
  have hf : made.length + (r.length + 1) ≤ 5000 := by simpa using hfew
  have HT : Hid (Calls Tryz.prog 208 #[.pointer (some ⟨P, 0, none⟩), .string ⟨#[33]⟩] w fun e w' => e = .returned (.bool true) ∧ Prs w0 P w' r made) := take_yes (x := bang) h takeW_cons
  have HR : Hid (chainF (n + 1) 3 (d + 1) (bang :: r) = match chainF n 3 d r with
    | none => none
    | some (e, r') => some (.no e, r')) := sing_bang n d r
  have HS : Hid (∀ w1, Prs w0 P w1 r made → Calls Tryz.prog 207 #[.pointer (some ⟨P, 0, none⟩), .int .i64 (8 - (d : Int))] w1 fun e w' => ReadIs w0 P r made (chainF n 3 d r) e w') := fun w1 hP1 => IH w0 w1 P r made d hP1 (by omega) (fun x hx => hpos x (by simp [hx])) (by omega) (by simp at hn; omega)
  clear hfew h hpos hn IH
  obtain ⟨dp, hdp⟩ : ∃ dp : Int, dp = 8 - ((d + 1 : Nat) : Int) := ⟨_, rfl⟩
  have hdp1 : dp < 8 := by omega
  have hdp0 : 0 ≤ dp := by omega
  have HD : Hid (dp + 1 = 8 - (d : Int)) := by show _ = _; omega
  rw [← hdp]
  clear hdp
  cases hres : chainF n 3 d r with
  | none =>
    have HRs : Hid (chainF n 3 d r = none) := hres
    clear hres
    go_enter Tryz.func207, Tryz.ntmps207
    go_wp2_with (first
      | (go_at_call 207; rw [HD.out]; refine (HS.out w1 hP1).mono ?_; rintro e w2 hrd; rw [HRs.out] at hrd; obtain ⟨rfl, ws2, made2, hP2, p1, p2, p3⟩ := hrd.no; clear hrd; have hsz2 := hP2.keeps.size; have f1 := hP2.f1; obtain ⟨m, hmc, hmo⟩ := hP2.mades)
      | (go_at_call 208; refine HT.out.mono ?_; rintro e w1 ⟨rfl, hP1⟩)
      | (at_builtin; refine wpList_append_own_at _ rfl _ _ 50 rfl w0.heap.size 9 i0 (.string ByteArray.empty) 1 16 Tryz.underlying50 hi0 hz0 hz1 hz2 rfl (by decide) _ made2.length (made2.map Value.string) rfl (hmo.alloc _) ⟨w2.heap.size, 0, none⟩ 1 1 [.string ⟨#[33]⟩] rfl rfl (cell_one_new _ _ _) (by simp [Value.oneCell']) (by omega) (by omega) (by simp; omega) ?_; intro v' w3 hown' hgrow hnil hloc; obtain ⟨g', cap', rfl⟩ := own_slice hown'; obtain ⟨hP3, hcs, g0', g1'⟩ := hP2.append (x := bang) hmc hown' hgrow (fun k hk' => (hmo.lt k hk').1); have c1' := hcs _ _ _ hlt hmc; clear hcs)
      | fail)
    go_ret
    exact ReadIs.mkNo (by rw [HR.out, HRs.out]) hP3 (by simp; omega) (by simp; omega) (fun y hy => by simp [p3 y hy])
  | some q =>
    obtain ⟨ex, r1⟩ := q
    have HRs : Hid (chainF n 3 d r = some (ex, r1)) := hres
    clear hres
    go_enter Tryz.func207, Tryz.ntmps207
    go_wp2_with (first
      | (go_at_call 207; rw [HD.out]; refine (HS.out w1 hP1).mono ?_; rintro e w2 hrd; rw [HRs.out] at hrd; obtain ⟨rfl, hP2, p1, p2, p3⟩ := hrd.yes; clear hrd; have hsz2 := hP2.keeps.size; have f1 := hP2.f1; obtain ⟨made2, hmd⟩ : ∃ made2, made2 = made ++ ex.post := ⟨_, rfl⟩; rw [← hmd] at hP2 p1; have HMD : Hid (made2 = made ++ ex.post) := hmd; clear hmd; obtain ⟨m, hmc, hmo⟩ := hP2.mades)
      | (go_at_call 208; refine HT.out.mono ?_; rintro e w1 ⟨rfl, hP1⟩)
      | (at_builtin; refine wpList_append_own_at _ rfl _ _ 50 rfl w0.heap.size 9 i0 (.string ByteArray.empty) 1 16 Tryz.underlying50 hi0 hz0 hz1 hz2 rfl (by decide) _ made2.length (made2.map Value.string) rfl (hmo.alloc _) ⟨w2.heap.size, 0, none⟩ 1 1 [.string ⟨#[33]⟩] rfl rfl (cell_one_new _ _ _) (by simp [Value.oneCell']) (by omega) (by omega) (by simp; omega) ?_; intro v' w3 hown' hgrow hnil hloc; obtain ⟨g', cap', rfl⟩ := own_slice hown'; obtain ⟨hP3, hcs, g0', g1'⟩ := hP2.append (x := bang) hmc hown' hgrow (fun k hk' => (hmo.lt k hk').1); have c1' := hcs _ _ _ hlt hmc; clear hcs)
      | fail)
    go_ret
    exact ReadIs.mkYes (ex := .no ex) (by rw [HR.out, HRs.out]) (by rw [HMD.out]; simp [Ex.post]) hP3 (by simp; omega) (by simp; omega) (fun y hy => by simp [p3 y hy])

set_option maxRecDepth 100000 in
set_option maxHeartbeats 1000000 in
theorem single_open0 {w0 w : World} {P : Nat} {r made : List W} (n : Nat) (h : Prs w0 P w (opn :: r) made) :
    Calls Tryz.prog 207 #[.pointer (some ⟨P, 0, none⟩), .int .i64 8] w fun e w' => ReadIs w0 P (opn :: r) made (chainF (n + 1) 3 0 (opn :: r)) e w' := by
  have HN : Hid (Calls Tryz.prog 208 #[.pointer (some ⟨P, 0, none⟩), .string ⟨#[33]⟩] w fun e w' => e = .returned (.bool false) ∧ w = w') := take_no (x := bang) h (takeW_ne (fun h => consts_ne.1 h.symm))
  have HT : Hid (Calls Tryz.prog 208 #[.pointer (some ⟨P, 0, none⟩), .string ⟨#[40]⟩] w fun e w' => e = .returned (.bool true) ∧ Prs w0 P w' r made) := take_yes (x := opn) h takeW_cons
  have HR : Hid (chainF (n + 1) 3 0 (opn :: r) = none) := sing_open0 n r
  clear h
  go_enter Tryz.func207, Tryz.ntmps207
  go_wp2_with (first
    | (go_at_call 208; refine HN.out.mono ?_; clear HN; rintro e w' ⟨rfl, rfl⟩)
    | (go_at_call 208; refine HT.out.mono ?_; clear HT; rintro e w1 ⟨rfl, hP1⟩)
    | fail)
  go_ret
  exact ReadIs.mkNo HR.out hP1 (by simp) (by simp) (fun y hy => by simp [hy])

set_option maxRecDepth 100000 in
set_option maxHeartbeats 1000000 in
theorem single_open {w0 w : World} {P : Nat} {r made : List W} (n d : Nat) (IH : ChainSaid n) (h : Prs w0 P w (opn :: r) made) (hfew : made.length + (opn :: r).length ≤ 5000) (hpos : ∀ x ∈ opn :: r, 0 < ByteArray.size x) (hd : d + 1 ≤ 8) (hn : 4 * (opn :: r).length < n + 1) :
    Calls Tryz.prog 207 #[.pointer (some ⟨P, 0, none⟩), .int .i64 (8 - ((d + 1 : Nat) : Int))] w fun e w' => ReadIs w0 P (opn :: r) made (chainF (n + 1) 3 (d + 1) (opn :: r)) e w' := by
  have hf : made.length + (r.length + 1) ≤ 5000 := by simpa using hfew
  have HN : Hid (Calls Tryz.prog 208 #[.pointer (some ⟨P, 0, none⟩), .string ⟨#[33]⟩] w fun e w' => e = .returned (.bool false) ∧ w = w') := take_no (x := bang) h (takeW_ne (fun h => consts_ne.1 h.symm))
  have HT : Hid (Calls Tryz.prog 208 #[.pointer (some ⟨P, 0, none⟩), .string ⟨#[40]⟩] w fun e w' => e = .returned (.bool true) ∧ Prs w0 P w' r made) := take_yes (x := opn) h takeW_cons
  have HR : Hid (chainF (n + 1) 3 (d + 1) (opn :: r) = match chainF n 0 d r with
    | some (e, y :: r') => if y = cls then some (e, r') else none
    | _ => none) := sing_open n d r
  have HS : Hid (∀ w1, Prs w0 P w1 r made → Calls Tryz.prog 199 #[.pointer (some ⟨P, 0, none⟩), .string ⟨#[124, 94, 38]⟩, .int .i64 (8 - (d : Int))] w1 fun e w' => ReadIs w0 P r made (chainF n 0 d r) e w') := fun w1 hP1 => IH w0 w1 P r made 0 d hP1 (by omega) (fun x hx => hpos x (by simp [hx])) (by omega) (by omega) (by simp at hn; omega)
  clear hfew h hpos hn IH
  obtain ⟨dp, hdp⟩ : ∃ dp : Int, dp = 8 - ((d + 1 : Nat) : Int) := ⟨_, rfl⟩
  have hdp1 : dp < 8 := by omega
  have hdp0 : 0 ≤ dp := by omega
  have HD : Hid (dp + 1 = 8 - (d : Int)) := by show _ = _; omega
  rw [← hdp]
  clear hdp
  cases hres : chainF n 0 d r with
  | none =>
    have HRs : Hid (chainF n 0 d r = none) := hres
    clear hres
    go_enter Tryz.func207, Tryz.ntmps207
    go_wp2_with (first
      | (go_at_call 199; rw [HD.out]; refine (HS.out w1 hP1).mono ?_; rintro e w2 hrd; rw [HRs.out] at hrd; obtain ⟨rfl, ws2, made2, hP2, p1, p2, p3⟩ := hrd.no; clear hrd)
      | (go_at_call 208; refine HN.out.mono ?_; clear HN; rintro e w' ⟨rfl, rfl⟩)
      | (go_at_call 208; refine HT.out.mono ?_; clear HT; rintro e w1 ⟨rfl, hP1⟩)
      | fail)
    go_ret
    exact ReadIs.mkNo (by rw [HR.out, HRs.out]) hP2 (by simp; omega) (by simp; omega) (fun y hy => by simp [p3 y hy])
  | some q =>
    obtain ⟨ex, r1⟩ := q
    have HRs : Hid (chainF n 0 d r = some (ex, r1)) := hres
    clear hres
    have hcase : (∃ r2, r1 = cls :: r2) ∨ takeW cls r1 = none := by
      cases r1 with
      | nil => exact Or.inr rfl
      | cons y r2 =>
        by_cases e : y = cls
        · exact Or.inl ⟨r2, by rw [e]⟩
        · exact Or.inr (takeW_ne e)
    rcases hcase with ⟨r2, rfl⟩ | hno
    · go_enter Tryz.func207, Tryz.ntmps207
      go_wp2_with (first
        | (go_at_call 199; rw [HD.out]; refine (HS.out w1 hP1).mono ?_; rintro e w2 hrd; rw [HRs.out] at hrd; obtain ⟨rfl, hP2, p1, p2, p3⟩ := hrd.yes; clear hrd)
        | (go_at_call 208; refine HN.out.mono ?_; clear HN; rintro e w' ⟨rfl, rfl⟩)
        | (go_at_call 208; refine HT.out.mono ?_; clear HT; rintro e w1 ⟨rfl, hP1⟩)
        | (go_at_call 208; refine (take_yes (x := cls) hP2 takeW_cons).mono ?_; rintro e w3 ⟨rfl, hP3⟩)
        | fail)
      go_ret
      exact ReadIs.mkYes (ex := ex) (r := r2) (by rw [HR.out, HRs.out]; simp) rfl hP3 (by simp at p1 ⊢; omega) (by simp at p2 ⊢; omega) (fun y hy => by simp [p3 y (by simp [hy])])
    · have HNo : Hid (takeW cls r1 = none) := hno
      clear hno
      go_enter Tryz.func207, Tryz.ntmps207
      go_wp2_with (first
        | (go_at_call 199; rw [HD.out]; refine (HS.out w1 hP1).mono ?_; rintro e w2 hrd; rw [HRs.out] at hrd; obtain ⟨rfl, hP2, p1, p2, p3⟩ := hrd.yes; clear hrd)
        | (go_at_call 208; refine HN.out.mono ?_; clear HN; rintro e w' ⟨rfl, rfl⟩)
        | (go_at_call 208; refine HT.out.mono ?_; clear HT; rintro e w1 ⟨rfl, hP1⟩)
        | (go_at_call 208; refine (take_no (x := cls) hP2 HNo.out).mono ?_; rintro e w3 ⟨rfl, rfl⟩)
        | fail)
      go_ret
      refine ReadIs.mkNo ?_ hP2 (by simp at p1 ⊢; omega) (by simp; omega) (fun y hy => by simp [p3 y hy])
      rw [HR.out, HRs.out]
      cases r1 with
      | nil => rfl
      | cons y r2 =>
        have hne : y ≠ cls := fun e => by have := HNo.out; simp [takeW, e] at this
        simp [hne]

set_option maxRecDepth 100000 in
set_option maxHeartbeats 1000000 in
theorem single_else {w0 w : World} {P : Nat} {ws made : List W} (n d : Nat) {dp : Int} (h : Prs w0 P w ws made) (hfew : made.length + ws.length ≤ 5000) (hpos : ∀ x ∈ ws, 0 < ByteArray.size x) (h1 : takeW bang ws = none) (h2 : takeW opn ws = none) :
    Calls Tryz.prog 207 #[.pointer (some ⟨P, 0, none⟩), .int .i64 dp] w fun e w' => ReadIs w0 P ws made (chainF (n + 1) 3 d ws) e w' := by
  have hv : chainF (n + 1) 3 d ws = valueW ws := by
    cases ws with
    | nil => exact sing_nil n d
    | cons x r => exact sing_else n d r (fun e => by simp [takeW, e] at h1) (fun e => by simp [takeW, e] at h2)
  rw [hv]
  have HN : Hid (Calls Tryz.prog 208 #[.pointer (some ⟨P, 0, none⟩), .string ⟨#[33]⟩] w fun e w' => e = .returned (.bool false) ∧ w = w') := take_no (x := bang) h h1
  have HT : Hid (Calls Tryz.prog 208 #[.pointer (some ⟨P, 0, none⟩), .string ⟨#[40]⟩] w fun e w' => e = .returned (.bool false) ∧ w = w') := take_no (x := opn) h h2
  have HV : Hid (Calls Tryz.prog 213 #[.pointer (some ⟨P, 0, none⟩)] w fun e w' => ReadIs w0 P ws made (valueW ws) e w') := value_any h hfew hpos
  clear hv h hfew hpos h1 h2
  go_enter Tryz.func207, Tryz.ntmps207
  go_wp2_with (first
    | (go_at_call 213; refine HV.out.mono ?_; rintro e w1 hrd; have hrd0 := hrd; obtain ⟨rfl, _⟩ := hrd0)
    | (go_at_call 208; refine HN.out.mono ?_; clear HN; rintro e w' ⟨rfl, rfl⟩)
    | (go_at_call 208; refine HT.out.mono ?_; clear HT; rintro e w1 ⟨rfl, rfl⟩)
    | fail)
  go_ret
  exact hrd

theorem single_step {n : Nat} (IHc : ChainSaid n) (IHs : SingleSaid n) : SingleSaid (n + 1) := by
  intro w0 w P ws made d h hfew hpos hd hn
  cases ws with
  | nil => exact single_else n d h hfew hpos rfl rfl
  | cons x r =>
    by_cases e1 : x = bang
    · subst e1
      cases d with
      | zero => exact single_bang0 n h hfew
      | succ d => exact single_bang n d IHs h hfew hpos hd hn
    · by_cases e2 : x = opn
      · subst e2
        cases d with
        | zero => exact single_open0 n h
        | succ d => exact single_open n d IHc h hfew hpos hd hn
      · exact single_else n d h hfew hpos (takeW_ne e1) (takeW_ne e2)

end Go.Proofs.YtmgjegokkbghlaaGreatDoor
