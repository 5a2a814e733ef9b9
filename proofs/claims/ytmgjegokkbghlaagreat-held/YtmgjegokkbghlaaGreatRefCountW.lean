/- The walk of the document's Count: the loops. -/
import Derived.Test.YtmgjegokkbghlaaGreatRefCount
namespace Go.Proofs.YtmgjegokkbghlaaGreat
open Go.RowKit Go.Maps Bdd
attribute [local go_sem ↓] Go.wp_at_zero Go.wp_at_succ

section
variable {N : Tab} {last : Int} {n : Nat}

/-- one text more, if it is not there yet -/
theorem Row.add {w w' : World} {base : Nat} {v v' : Value} {o : Ord n} {nm : List Int} {x : Int} (h : w'.ownsRow base 9 1 v' (nm.length + 1) ((nm.map (T N o)).map Value.string ++ [.string (T N o x)])) (_hr : Row w base v o N nm) : Row w' base v' o N (nm ++ [x]) := by
  unfold Row
  simpa using h

theorem mem_flat {k : Int} {l : List Int} {x : Int} (hl : ∀ y ∈ l, Ok N k y) (hw : Wf N (n : Int) last) (h0 : 0 ≤ k) (hx : x ∈ l.flatMap fun x => [part N x k false, part N x k true]) : Ok N 0 x := by
  simp only [List.mem_flatMap, List.mem_cons, List.not_mem_nil, or_false] at hx
  obtain ⟨y, hy, e | e⟩ := hx
  · rw [e]; exact (part_ok hw (hl y hy) false).mono (by omega)
  · rw [e]; exact (part_ok hw (hl y hy) true).mono (by omega)

theorem Row.mono {w : World} {base base' : Nat} {v : Value} {o : Ord n} {nm : List Int} (h : Row w base v o N nm) (hb : base' ≤ base) : Row w base' v o N nm := by
  refine ⟨h.1, ?_⟩
  rcases h.2 with h' | ⟨g, cap, cur, rfl, hbg, rest⟩
  · exact .inl h'
  · exact .inr ⟨g, cap, cur, rfl, by omega, rest⟩
def addN (l : List Int) (x : Int) : List Int := if l.contains x then l else l ++ [x]
theorem addN_length (l : List Int) (x : Int) : (addN l x).length ≤ l.length + 1 := by unfold addN; split <;> simp
theorem next_snoc (k : Int) {l : List Int} {j : Nat} (hj : j < l.length) : once [] ((l.take (j + 1)).flatMap fun x => [part N x k false, part N x k true]) = addN (addN (once [] ((l.take j).flatMap fun x => [part N x k false, part N x k true])) (part N l[j] k false)) (part N l[j] k true) := by
  rw [take_snoc hj, List.flatMap_append]
  have : ([l[j]].flatMap fun x => [part N x k false, part N x k true]) = [part N l[j] k false] ++ [part N l[j] k true] := by simp
  rw [this, ← List.append_assoc, once_snoc, once_snoc]
  rfl
theorem at_snoc (k : Int) {l : List Int} {j : Nat} (hj : j < l.length) : (atLv N k (l.take (j + 1))).length = (atLv N k (l.take j)).length + if lvl N l[j] = k then 1 else 0 := by
  rw [take_snoc hj]
  unfold atLv
  rw [List.filter_append, List.length_append]
  congr 1
  by_cases e : lvl N l[j] = k
  · simp [e]
  · simp [e]
/-- a text is handed to a row: it is there once -/
theorem addN_ok {l : List Int} {x : Int} (hl : ∀ y ∈ l, Ok N 0 y) (hx : Ok N 0 x) : ∀ y ∈ addN l x, Ok N 0 y := by
  intro y hy
  unfold addN at hy
  split at hy
  · exact hl y hy
  · rcases List.mem_append.1 hy with h | h
    · exact hl y h
    · simp at h; rw [h]; exact hx

set_option maxRecDepth 100000 in
set_option maxHeartbeats 8000000 in
theorem rcount_any {w : World} {r m ob oo ocap fg fcap : Nat} (hw : Wf N (n : Int) last) (hn8 : n ≤ 8) (o : Ord n) (hc : w.cell? ⟨r, 0, none⟩ = some (.int .i64 (n : Int))) {nm : List Int} (hm : m = nm.length) (hm0 : 0 < m) (hm100 : m ≤ 100) (hok : ∀ y ∈ nm, Ok N 0 y) (hf : ∀ j (hj : j < nm.length), w.cell? ⟨fg, j, none⟩ = some (.string (T N o nm[j])))
    (ho : ∀ k : Nat, k < n → w.cell? ⟨ob, oo + k, none⟩ = some (.int .i64 (o.at_ (k : Int)))) :
    Calls Tryz.prog 97 #[.pointer (some ⟨r, 0, none⟩), .slice (some ⟨fg, 0, none⟩) m fcap, .slice (some ⟨ob, oo, none⟩) n ocap] w fun e w' => e = .returned (.int .i64 ((total N n 0 (once [] nm) : Nat) : Int)) ∧ Keeps [] w w' := by
  obtain ⟨i0, hI0, hz0, hz1, hz2⟩ := info_parts info9
  have hml : 1000000 < maxLen := by decide
  have HR : Hid (∀ j (hj : j < nm.length), w.cell? ⟨fg, j, none⟩ = some (.string (T N o nm[j]))) := hf
  have HOk : Hid (∀ y ∈ nm, Ok N 0 y) := hok
  have HO : Hid (∀ k : Nat, k < n → w.cell? ⟨ob, oo + k, none⟩ = some (.int .i64 (o.at_ (k : Int)))) := ho
  have Hmm : Hid (m = nm.length) := hm
  obtain ⟨TT, hTT⟩ : ∃ TT, TT = total N n 0 (once [] nm) := ⟨_, rfl⟩
  rw [← hTT]
  have HTT : Hid (TT = total N n 0 (once [] nm)) := hTT
  clear hf hok ho hm hTT
  go_enter Tryz.func97, Tryz.ntmps97
  go_wp2_with fail
  go_loopw [8, 9] (fun v x wr => ∃ j : Nat, j ≤ m ∧ x = .int .i64 j ∧ Row wr w.heap.size v o N (once [] (nm.take j)) ∧ Keeps [] w wr) (fun _ x _ => m - (intOf x).toNat)
  case atStart =>
    refine ⟨0, by omega, rfl, ?_, Keeps.refl _ _⟩
    exact World.ownsRow_nil _ _ _ _
  case round =>
    obtain ⟨j, hj, rfl, hrow, hk⟩ := hrel
    by_cases hlt : j < m
    · as_aux_lemma =>
      have hjl : j < nm.length := by rw [← Hmm.out]; exact hlt
      have hj0 : (0 : Int) ≤ (j : Int) := by omega
      have hj1 : (j : Int) < (m : Int) := by omega
      have hcr := hk.cell (HR.out j hjl) (by simp)
      have hx : Ok N 0 nm[j] := HOk.out _ (List.getElem_mem _)
      have hrl := once_length (nm.take j) []
      simp only [List.length_nil, Nat.zero_add, List.length_take] at hrl
      have hin := hrow.has hw (fun y hy => by
        rcases (mem_once _ _ _).1 hy with h | h
        · simp at h
        · exact HOk.out y (List.mem_of_mem_take h)) (by omega) hx
      obtain ⟨x, hxe⟩ : ∃ x, x = nm[j] := ⟨_, rfl⟩
      rw [← hxe] at hin hcr
      have HX : Hid (x = nm[j]) := hxe
      obtain ⟨S, hS⟩ : ∃ S, S = T N o x := ⟨_, rfl⟩
      rw [← hS] at hin hcr
      have HS : Hid (S = T N o x) := hS
      have hbase := hk.size
      have hlr : fg < wr.heap.size := cell_lt (p := ⟨fg, j, none⟩) hcr
      obtain ⟨cur, hcur⟩ : ∃ cur, cur = once [] (nm.take j) := ⟨_, rfl⟩
      have HN : Hid (once [] (nm.take (j + 1)) = if cur.contains x then cur else cur ++ [x]) := by show _ = _; rw [take_snoc hjl, once_snoc, hcur, hxe]
      rw [← hcur] at hrow hin hrl
      have HIN : Hid (Calls Tryz.prog 115 #[u8, .string S] wr fun e w' => e = .returned (.bool (cur.contains x)) ∧ wr = w') := hin
      clear hin hxe hS hx hcur
      cases hb : cur.contains x with
      | true =>
        have HB : Hid (cur.contains x = true) := hb
        clear hb
        go_wp2_with fail
        refine HIN.out.mono ?_
        rintro e w1 ⟨rfl, rfl⟩
        rw [HB.out]
        go_wp2_with fail
        go_roundw
        case rel => exact ⟨j + 1, by omega, by go_num, by rw [HN.out, HB.out]; exact hrow, hk⟩
        case measure => simp [intOf]; omega
      | false =>
        have HB : Hid (cur.contains x = false) := hb
        clear hb
        go_wp2_with fail
        refine HIN.out.mono ?_
        rintro e w1 ⟨rfl, rfl⟩
        rw [HB.out]
        have hown : wr.ownsRow w.heap.size 9 1 u8 cur.length ((cur.map (T N o)).map Value.string) := hrow
        go_wp2_with (first
          | (at_builtin; refine wpList_append_own_at _ rfl _ _ 123 rfl w.heap.size 9 i0 (.string ByteArray.empty) 1 16 Tryz.underlying123 hI0 hz0 hz1 hz2 rfl (by decide) _ cur.length _ rfl (hown.alloc _) ⟨wr.heap.size, 0, none⟩ 1 1 [.string S] rfl rfl (cell_one_new _ _ _) (by simp [Value.oneCell']) (by omega) (by omega) (by simp; omega) ?_; intro v' w1 hown' hgrow hnil hloc)
          | fail)
        go_roundw
        case rel =>
          refine ⟨j + 1, by omega, by go_num, ?_, (hk.alloc _).grown hgrow (fun k hk' => Or.inr (hown.lt k hk').1)⟩
          rw [HN.out, HB.out]
          rw [HS.out] at hown'
          exact Row.add hown' hrow
        case measure => simp [intOf]; omega
    · as_aux_lemma =>
      have e : j = m := by omega
      subst e
      have hnm : nm.take j = nm := by rw [Hmm.out]; exact List.take_length
      rw [hnm] at hrow
      have hnd := once_nodup nm [] List.nodup_nil
      have hon : ∀ y ∈ once [] nm, Ok N 0 y := fun y hy => by
        rcases (mem_once _ _ _).1 hy with h | h
        · simp at h
        · exact HOk.out y h
      have hol := once_length nm []
      simp only [List.length_nil, Nat.zero_add] at hol
      have hol2 : (once [] nm).length ≤ 100 := by have := Hmm.out; omega
      have hpos : 0 < (once [] nm).length := by
        have h0 : 0 < nm.length := by rw [← Hmm.out]; exact hm0
        exact List.length_pos_of_mem ((mem_once nm [] nm[0]).2 (Or.inr (List.getElem_mem _)))
      obtain ⟨nm0, hnm0⟩ : ∃ nm0, nm0 = once [] nm := ⟨_, rfl⟩
      rw [← hnm0] at hrow hnd hon hol2 hpos HTT
      clear hnm hol hnm0 HR HOk
      go_wp2_with fail
      go_loopw [7, 8, 11] (fun c v x wq => ∃ (i cnt : Nat) (cur : List Int), i ≤ n ∧ x = .int .i64 i ∧ c = .int .i64 cnt ∧ cnt + total N (n - i) i cur = TT ∧ cnt ≤ 100000 * i ∧ cur.Nodup ∧ (∀ y ∈ cur, Ok N (i : Int) y) ∧ cur.length ≤ 100 * 2 ^ i ∧ 0 < cur.length ∧ Row wq w.heap.size v o N cur ∧ Keeps [] w wq) (fun _ _ x _ => n - (intOf x).toNat)
      case atStart => exact ⟨0, 0, nm0, by omega, rfl, rfl, by rw [HTT.out]; simp, by omega, hnd, hon, by omega, hpos, hrow, hk⟩
      case round =>
        clear hrow hnd hon hol2 hk hpos
        obtain ⟨i, cnt, cur, hin, rfl, rfl, hsum, hcnt, hnd, hoki, hlen, hpos, hrow, hk⟩ := hrel
        have hcr := hk.cell hc (by simp)
        by_cases hlti : i < n
        · have hi0 : (0 : Int) ≤ (i : Int) := by omega
          have hi1 : (i : Int) < (n : Int) := by omega
          obtain ⟨a0, a1, _⟩ := o.r1 (i : Int) hi0 hi1
          obtain ⟨va, hva⟩ := Int.eq_ofNat_of_zero_le a0
          have hoc := hk.cell (HO.out i hlti) (by simp)
          rw [hva] at hoc
          have hvan : va < n := by omega
          have hp8 : 2 ^ i ≤ 2 ^ 8 := Nat.pow_le_pow_right (by omega) (by omega)
          have hl6 : cur.length ≤ 25600 := by omega
          have Hsum : Hid (cnt + total N (n - i) i cur = TT) := hsum
          have HOK : Hid (∀ y ∈ cur, Ok N (i : Int) y) := hoki
          have HVA : Hid (o.at_ (i : Int) = (va : Int)) := hva
          have Hlen : Hid (cur.length ≤ 100 * 2 ^ i) := hlen
          clear hsum hoki hva a0 a1 hlen hp8
          obtain ⟨wB, hwB⟩ : ∃ wB, wB = wr := ⟨_, rfl⟩
          rw [← hwB] at hrow hk hcr hoc ⊢
          clear hwB
          obtain ⟨L, hL⟩ : ∃ L, L = cur.length := ⟨_, rfl⟩
          have HL : Hid (L = cur.length) := hL
          rw [← hL] at hl6
          have hLp : 0 < L := by omega
          obtain ⟨ng, ncap, hu8, hbg, hlg, _⟩ := hrow.cell hpos
          rw [← hL] at hu8
          subst hu8
          clear hL
          have HROW : Hid (Row wB w.heap.size (.slice (some ⟨ng, 0, none⟩) L ncap) o N cur) := hrow
          have hLi : (L : Int) ≤ 25600 := by omega
          have hc8 : cnt ≤ 800000 := by omega
          go_wp2_with fail
          go_loopw [7, 13, 14] (fun c nx x wq => ∃ j2 : Nat, j2 ≤ L ∧ x = .int .i64 j2 ∧ c = .int .i64 ((cnt + (atLv N i (cur.take j2)).length : Nat) : Int) ∧ Row wq wB.heap.size nx o N (once [] ((cur.take j2).flatMap fun x => [part N x i false, part N x i true])) ∧ Keeps [] wB wq) (fun _ _ x _ => L - (intOf x).toNat)
          case atStart => exact ⟨0, by omega, rfl, by simp [atLv], by simpa [once, Row] using World.ownsRow_nil _ _ _ _, Keeps.refl _ _⟩
          case round =>
            clear hrow
            obtain ⟨j2, hj2, rfl, rfl, hnext, hkq⟩ := hrel
            by_cases hltj : j2 < L
            · have hjl : j2 < cur.length := by rw [← HL.out]; exact hltj
              have hj20 : (0 : Int) ≤ (j2 : Int) := by omega
              have hj21 : (j2 : Int) < (L : Int) := by omega
              obtain ⟨g2, cap2, hs2, _, _, htc⟩ := HROW.out.cell hjl
              have eg : g2 = ng := by simp at hs2; exact hs2.1.symm
              subst eg
              have htc' := hkq.cell htc (by simp)
              have hxk := HOK.out _ (List.getElem_mem hjl)
              have HAT := show Hid _ from at_snoc (N := N) (i : Int) hjl
              have HNX := show Hid _ from next_snoc (N := N) (i : Int) hjl
              obtain ⟨x0, hx0⟩ : ∃ x0, x0 = cur[j2] := ⟨_, rfl⟩
              rw [← hx0] at htc htc' hxk HAT HNX
              have hal : (atLv N i (cur.take j2)).length ≤ 25600 := by
                have h1 := List.length_filter_le (fun x => lvl N x == (i : Int)) (cur.take j2)
                have h2 : (cur.take j2).length ≤ cur.length := by simp; omega
                have h3 := HL.out
                unfold atLv
                omega
              obtain ⟨ca, hca⟩ : ∃ ca, ca = cnt + (atLv N i (cur.take j2)).length := ⟨_, rfl⟩
              have HCA : Hid (ca = cnt + (atLv N i (cur.take j2)).length) := hca
              have hca2 : ca ≤ 900000 := by omega
              rw [← hca]
              obtain ⟨l0, hl0⟩ : ∃ l0, l0 = once [] ((cur.take j2).flatMap fun x => [part N x i false, part N x i true]) := ⟨_, rfl⟩
              rw [← hl0] at hnext HNX
              have HL0 : Hid (l0 = once [] ((cur.take j2).flatMap fun x => [part N x i false, part N x i true])) := hl0
              have hl0len : l0.length ≤ 60000 := by
                rw [hl0]
                have h1 := once_length ((cur.take j2).flatMap fun x => [part N x i false, part N x i true]) []
                have h2 : ((cur.take j2).flatMap fun x => [part N x i false, part N x i true]).length ≤ 2 * cur.length := by
                  have : ∀ l : List Int, (l.flatMap fun x => [part N x i false, part N x i true]).length = 2 * l.length := by
                    intro l
                    induction l with
                    | nil => rfl
                    | cons a l ih => simp [List.flatMap_cons, ih]; omega
                  rw [this]; simp; omega
                have h3 := HL.out
                simp only [List.length_nil, Nat.zero_add] at h1
                omega
              have hl0ok : ∀ y ∈ l0, Ok N 0 y := fun y hy => by
                rw [hl0] at hy
                rcases (mem_once _ _ _).1 hy with h | h
                · simp at h
                · exact mem_flat (fun z hz => HOK.out z (List.mem_of_mem_take hz)) hw hi0 h
              have HOK0 : Hid (∀ y ∈ l0, Ok N 0 y) := hl0ok
              have hcq := hkq.cell hcr (by simp)
              have HXK : Hid (Ok N (i : Int) x0) := hxk
              clear hca hl0 hx0 hal hl0ok hxk
              go_wp2_with fail
              refine (rhangs_any hn8 hcq (FV N o x0) hvan).mono ?_
              rintro e w2 ⟨⟨b, rfl, hb⟩, hk2⟩
              have hbl : b = true ↔ lvl N x0 = (i : Int) := by
                rw [hb]
                have := hangs_text hw hn8 o HXK.out hi0 hi1
                rw [HVA.out, Int.toNat_natCast] at this
                exact this
              have HBL : Hid (b = true ↔ lvl N x0 = (i : Int)) := hbl
              clear hb hbl
              obtain ⟨cb, hcb⟩ : ∃ cb, cb = ca + if lvl N x0 = (i : Int) then 1 else 0 := ⟨_, rfl⟩
              have HCB : Hid (cb = ca + if lvl N x0 = (i : Int) then 1 else 0) := hcb
              have hcb2 : cb ≤ 900001 := by rw [hcb]; split <;> omega
              clear hcb
              go_upto_if 65 with fail
              go_cut [7] (fun c wc => c = .int .i64 (cb : Int) ∧ wc = w2)
              case first =>
                cases b with
                | true =>
                  have e1 : (ca : Int) + 1 = (cb : Int) := by have h1 := HCB.out; rw [if_pos (HBL.out.1 rfl)] at h1; omega
                  have HE1 : Hid ((ca : Int) + 1 = (cb : Int)) := e1
                  clear e1
                  go_wp2_with fail
                  go_meet
                  exact ⟨congrArg (Value.int .i64) HE1.out, rfl⟩
                | false =>
                  have e1 : ca = cb := by have h1 := HCB.out; rw [if_neg (fun h => by have := HBL.out.2 h; cases this)] at h1; omega
                  have HE1 : Hid (ca = cb) := e1
                  clear e1
                  go_wp2_with fail
                  go_meet
                  exact ⟨congrArg (fun z : Nat => Value.int .i64 (z : Int)) HE1.out, rfl⟩
              case rest =>
                obtain ⟨rfl, rfl⟩ := hcut
                have hn2 := hnext.keeps hk2 (by simp)
                go_wp2_with fail
                go_loopw [13, 16] (fun nx x wq => ∃ (q : Nat) (nz : List Int), q ≤ 2 ∧ x = .int .i64 q ∧ nz = (if q = 0 then l0 else if q = 1 then addN l0 (part N x0 i false) else addN (addN l0 (part N x0 i false)) (part N x0 i true)) ∧ Row wq wB.heap.size nx o N nz ∧ Keeps [] wB wq) (fun _ x _ => 2 - (intOf x).toNat)
                case atStart => exact ⟨0, l0, by omega, rfl, rfl, hn2, hkq.trans hk2⟩
                case round =>
                  clear hn2 hnext
                  obtain ⟨q, nz, hq, rfl, hnz0, hnz, hkz⟩ := hrel
                  have hpo : ∀ y ∈ nz, Ok N 0 y := by
                    have h0 := HOK0.out
                    have h1 := addN_ok h0 ((part_ok hw HXK.out false).mono (show (0 : Int) ≤ (i : Int) + 1 by omega))
                    have h2 := addN_ok h1 ((part_ok hw HXK.out true).mono (show (0 : Int) ≤ (i : Int) + 1 by omega))
                    rw [hnz0]; split
                    · exact h0
                    · split
                      · exact h1
                      · exact h2
                  have hnl : nz.length ≤ 60002 := by
                    have h1 := addN_length l0 (part N x0 i false)
                    have h2 := addN_length (addN l0 (part N x0 i false)) (part N x0 i true)
                    rw [hnz0]; split
                    · omega
                    · split <;> omega
                  have HPO : Hid (∀ y ∈ nz, Ok N 0 y) := hpo
                  clear hpo
                  have h012 : q = 0 ∨ q = 1 ∨ q = 2 := by omega
                  rcases h012 with rfl | rfl | rfl
                  · have HNZ : Hid (nz = l0) := (show nz = l0 by simpa using hnz0)
                    clear hnz0
                    have hp0 : Ok N 0 (part N x0 i false) := (part_ok hw HXK.out false).mono (by omega)
                    have HG : Hid (∀ i', i' < 2 ^ n → FV N o (part N x0 i false) (asgN n i') = FV N o x0 (asgN n (putBit i' (n - 1 - va) false))) := by
                      have := given_text hw hn8 o HXK.out hi0 hi1 false
                      rw [HVA.out, Int.toNat_natCast] at this
                      exact this
                    have hcz := hkz.cell hcr (by simp)
                    have htz := hkz.cell htc (by simp)
                    go_wp2_with fail
                    refine (rgiven_any hn8 hcz (FV N o x0) hvan false).mono ?_
                    rintro e w3 ⟨S, rfl, hS, hk3⟩
                    have hS' : S = T N o (part N x0 i false) := hS _ HG.out
                    subst hS'
                    clear hS
                    have hrz := hnz.keeps hk3 (by simp)
                    have hin := hrz.has hw HPO.out (by omega) hp0
                    obtain ⟨y, hy⟩ : ∃ y, y = part N x0 i false := ⟨_, rfl⟩
                    rw [← hy] at hin ⊢
                    obtain ⟨S, hS⟩ : ∃ S, S = T N o y := ⟨_, rfl⟩
                    rw [← hS] at hin ⊢
                    have HIN : Hid (Calls Tryz.prog 115 #[u13, .string S] w3 fun e w' => e = .returned (.bool (nz.contains y)) ∧ w3 = w') := hin
                    have HY : Hid (y = part N x0 i false) := hy
                    have HS : Hid (S = T N o y) := hS
                    have hb3 : wB.heap.size ≤ w3.heap.size := (hkz.trans hk3).size
                    clear hin hy hS hp0 hcz htz
                    cases hbb : nz.contains y with
                    | true =>
                      have HB : Hid (nz.contains y = true) := hbb
                      clear hbb
                      go_wp2_with fail
                      refine HIN.out.mono ?_
                      rintro e w4 ⟨rfl, rfl⟩
                      rw [HB.out]
                      go_wp2_with fail
                      go_roundw
                      case rel => exact ⟨1, nz, by omega, rfl, by show nz = addN l0 (part N x0 i false); rw [← HY.out]; have h1 := HNZ.out; have h2 := HB.out; rw [h1] at h2 ⊢; unfold addN; rw [if_pos h2], hrz, hkz.trans hk3⟩
                      case measure => simp [intOf]
                    | false =>
                      have HB : Hid (nz.contains y = false) := hbb
                      clear hbb
                      go_wp2_with fail
                      refine HIN.out.mono ?_
                      rintro e w4 ⟨rfl, rfl⟩
                      rw [HB.out]
                      have hown : w3.ownsRow wB.heap.size 9 1 u13 nz.length ((nz.map (T N o)).map Value.string) := hrz
                      go_wp2_with (first
                        | (at_builtin; refine wpList_append_own_at _ rfl _ _ 123 rfl wB.heap.size 9 i0 (.string ByteArray.empty) 1 16 Tryz.underlying123 hI0 hz0 hz1 hz2 rfl (by decide) _ nz.length _ rfl (hown.alloc _) ⟨w3.heap.size, 0, none⟩ 1 1 [.string S] rfl rfl (cell_one_new _ _ _) (by simp [Value.oneCell']) (by omega) (by omega) (by simp; omega) ?_; intro v' w5 hown' hgrow hnil hloc)
                        | fail)
                      go_roundw
                      case rel =>
                        rw [HS.out] at hown'
                        exact ⟨1, nz ++ [y], by omega, rfl, by show nz ++ [y] = addN l0 (part N x0 i false); rw [← HY.out]; have h1 := HNZ.out; have h2 := HB.out; rw [h1] at h2 ⊢; unfold addN; rw [h2]; rfl, Row.add hown' hrz, ((hkz.trans hk3).alloc _).grown hgrow (fun k hk' => Or.inr (hown.lt k hk').1)⟩
                      case measure => simp [intOf]
                  · have HNZ : Hid (nz = addN l0 (part N x0 i false)) := (show nz = addN l0 (part N x0 i false) by simpa using hnz0)
                    clear hnz0
                    have hp0 : Ok N 0 (part N x0 i true) := (part_ok hw HXK.out true).mono (by omega)
                    have HG : Hid (∀ i', i' < 2 ^ n → FV N o (part N x0 i true) (asgN n i') = FV N o x0 (asgN n (putBit i' (n - 1 - va) true))) := by
                      have := given_text hw hn8 o HXK.out hi0 hi1 true
                      rw [HVA.out, Int.toNat_natCast] at this
                      exact this
                    have hcz := hkz.cell hcr (by simp)
                    have htz := hkz.cell htc (by simp)
                    go_wp2_with fail
                    refine (rgiven_any hn8 hcz (FV N o x0) hvan true).mono ?_
                    rintro e w3 ⟨S, rfl, hS, hk3⟩
                    have hS' : S = T N o (part N x0 i true) := hS _ HG.out
                    subst hS'
                    clear hS
                    have hrz := hnz.keeps hk3 (by simp)
                    have hin := hrz.has hw HPO.out (by omega) hp0
                    obtain ⟨y, hy⟩ : ∃ y, y = part N x0 i true := ⟨_, rfl⟩
                    rw [← hy] at hin ⊢
                    obtain ⟨S, hS⟩ : ∃ S, S = T N o y := ⟨_, rfl⟩
                    rw [← hS] at hin ⊢
                    have HIN : Hid (Calls Tryz.prog 115 #[u13, .string S] w3 fun e w' => e = .returned (.bool (nz.contains y)) ∧ w3 = w') := hin
                    have HY : Hid (y = part N x0 i true) := hy
                    have HS : Hid (S = T N o y) := hS
                    have hb3 : wB.heap.size ≤ w3.heap.size := (hkz.trans hk3).size
                    clear hin hy hS hp0 hcz htz
                    cases hbb : nz.contains y with
                    | true =>
                      have HB : Hid (nz.contains y = true) := hbb
                      clear hbb
                      go_wp2_with fail
                      refine HIN.out.mono ?_
                      rintro e w4 ⟨rfl, rfl⟩
                      rw [HB.out]
                      go_wp2_with fail
                      go_roundw
                      case rel => exact ⟨2, nz, by omega, rfl, by show nz = addN (addN l0 (part N x0 i false)) (part N x0 i true); rw [← HY.out]; have h1 := HNZ.out; have h2 := HB.out; rw [← h1]; unfold addN; rw [if_pos h2], hrz, hkz.trans hk3⟩
                      case measure => simp [intOf]
                    | false =>
                      have HB : Hid (nz.contains y = false) := hbb
                      clear hbb
                      go_wp2_with fail
                      refine HIN.out.mono ?_
                      rintro e w4 ⟨rfl, rfl⟩
                      rw [HB.out]
                      have hown : w3.ownsRow wB.heap.size 9 1 u13 nz.length ((nz.map (T N o)).map Value.string) := hrz
                      go_wp2_with (first
                        | (at_builtin; refine wpList_append_own_at _ rfl _ _ 123 rfl wB.heap.size 9 i0 (.string ByteArray.empty) 1 16 Tryz.underlying123 hI0 hz0 hz1 hz2 rfl (by decide) _ nz.length _ rfl (hown.alloc _) ⟨w3.heap.size, 0, none⟩ 1 1 [.string S] rfl rfl (cell_one_new _ _ _) (by simp [Value.oneCell']) (by omega) (by omega) (by simp; omega) ?_; intro v' w5 hown' hgrow hnil hloc)
                        | fail)
                      go_roundw
                      case rel =>
                        rw [HS.out] at hown'
                        exact ⟨2, nz ++ [y], by omega, rfl, by show nz ++ [y] = addN (addN l0 (part N x0 i false)) (part N x0 i true); rw [← HY.out]; have h1 := HNZ.out; have h2 := HB.out; rw [← h1]; unfold addN; rw [h2]; rfl, Row.add hown' hrz, ((hkz.trans hk3).alloc _).grown hgrow (fun k hk' => Or.inr (hown.lt k hk').1)⟩
                      case measure => simp [intOf]
                  · go_wp2_with fail
                    go_roundw
                    case rel =>
                      refine ⟨j2 + 1, by omega, by go_num, ?_, ?_, hkz⟩
                      · rw [HAT.out, ← Nat.add_assoc, ← HCA.out, ← HCB.out]
                      · rw [HNX.out]
                        have : nz = addN (addN l0 (part N x0 i false)) (part N x0 i true) := by simpa using hnz0
                        rw [← this]
                        exact hnz
                    case measure => simp [intOf]; omega
            · have e : j2 = L := by omega
              subst e
              have hct : cur.take j2 = cur := by rw [HL.out]; exact List.take_length
              rw [hct] at hnext ⊢
              have hnn : once [] (cur.flatMap fun x => [part N x i false, part N x i true]) = nextN N i cur := rfl
              rw [hnn] at hnext
              have hal : (atLv N i cur).length ≤ 25600 := by
                have h1 := List.length_filter_le (fun x => lvl N x == (i : Int)) cur
                have h3 := HL.out
                unfold atLv
                omega
              obtain ⟨ca, hca⟩ : ∃ ca, ca = cnt + (atLv N i cur).length := ⟨_, rfl⟩
              have HCA : Hid (ca = cnt + (atLv N i cur).length) := hca
              have hca2 : ca ≤ 900000 := by omega
              rw [← hca]
              clear hca
              go_wp2_with fail
              go_roundw
              case rel =>
                refine ⟨i + 1, ca, nextN N i cur, by omega, by go_num, rfl, ?_, ?_, once_nodup _ _ List.nodup_nil, ?_, ?_, ?_, hnext.mono hk.size, hk.trans hkq⟩
                · have h1 := Hsum.out
                  have e1 : n - i = (n - (i + 1)) + 1 := by omega
                  rw [e1, total] at h1
                  rw [HCA.out, ← h1, Nat.add_assoc]
                  have e2 : ((i + 1 : Nat) : Int) = (i : Int) + 1 := by omega
                  rw [e2]
                · have := HCA.out; omega
                · intro y hy
                  obtain ⟨z, hz, e | e⟩ := mem_next.1 hy
                  · rw [e]; exact part_ok hw (HOK.out z hz) false
                  · rw [e]; exact part_ok hw (HOK.out z hz) true
                · have h1 := once_length (cur.flatMap fun x => [part N x i false, part N x i true]) []
                  have h2 : (cur.flatMap fun x => [part N x i false, part N x i true]).length = 2 * cur.length := by
                    have : ∀ l : List Int, (l.flatMap fun x => [part N x i false, part N x i true]).length = 2 * l.length := by
                      intro l
                      induction l with
                      | nil => rfl
                      | cons a l ih => simp [List.flatMap_cons, ih]; omega
                    exact this cur
                  have h3 := Hlen.out
                  rw [h2] at h1
                  simp only [List.length_nil, Nat.zero_add] at h1
                  rw [Nat.pow_succ]
                  show (once [] _).length ≤ _
                  omega
                · have h0 : 0 < cur.length := by rw [← HL.out]; exact hLp
                  exact List.length_pos_of_mem (mem_next.2 ⟨cur[0], List.getElem_mem _, Or.inl rfl⟩)
              case measure => simp [intOf]; omega
        · have e : i = n := by omega
          subst e
          go_wp2_with fail
          go_ret
          refine ⟨?_, hk⟩
          have : cnt = TT := by rw [← hsum, Nat.sub_self]; rfl
          rw [← this]
          rfl
end

end Go.Proofs.YtmgjegokkbghlaaGreat
