/- The walk of the document's Count: the loops. The document's store in memory: of, all. The document's store in memory: all, Same, True. -/
import Derived.Test.YtmgjegokkbghlaaGreatRefText
namespace Go.Proofs.YtmgjegokkbghlaaGreat
open Go.RowKit Go.Maps Bdd
attribute [local go_sem ↓] Go.wp_at_zero Go.wp_at_succ

section
variable {N : Tab} {last : Int} {n : Nat}

/-- one text more, if it is not there yet -/
theorem Row.add {w w' : World} {base : Nat} {v v' : Value} {o : Ord n} {nm : List Int} {x : Int} (h : w'.ownsRow base 9 1 v' (nm.length + 1) ((nm.map (T N o)).map Value.string ++ [.string (T N o x)])) (_hr : Row w base v o N nm) : Row w' base v' o N (nm ++ [x]) := by
  unfold Row
  simpa using h

theorem mem_flat {k : Int} {l : List Int} {x : Int} (hl : ∀ y ∈ l, Ok N k y) (hw : Wf N (n : Int) last) (h0 : 0 ≤ k) (hx : x ∈ l.flatMap fun x => [part N x k false, part N x k true]) : Ok N 0 x := by
  simp only [List.mem_flatMap, List.mem_cons, List.not_mem_nil, or_false] at hx
  obtain ⟨y, hy, e | e⟩ := hx
  · rw [e]; exact (part_ok hw (hl y hy) false).mono (by omega)
  · rw [e]; exact (part_ok hw (hl y hy) true).mono (by omega)

theorem Row.mono {w : World} {base base' : Nat} {v : Value} {o : Ord n} {nm : List Int} (h : Row w base v o N nm) (hb : base' ≤ base) : Row w base' v o N nm := by
  refine ⟨h.1, ?_⟩
  rcases h.2 with h' | ⟨g, cap, cur, rfl, hbg, rest⟩
  · exact .inl h'
  · exact .inr ⟨g, cap, cur, rfl, by omega, rest⟩
def addN (l : List Int) (x : Int) : List Int := if l.contains x then l else l ++ [x]
theorem addN_length (l : List Int) (x : Int) : (addN l x).length ≤ l.length + 1 := by unfold addN; split <;> simp
theorem next_snoc (k : Int) {l : List Int} {j : Nat} (hj : j < l.length) : once [] ((l.take (j + 1)).flatMap fun x => [part N x k false, part N x k true]) = addN (addN (once [] ((l.take j).flatMap fun x => [part N x k false, part N x k true])) (part N l[j] k false)) (part N l[j] k true) := by
  rw [take_snoc hj, List.flatMap_append]
  have : ([l[j]].flatMap fun x => [part N x k false, part N x k true]) = [part N l[j] k false] ++ [part N l[j] k true] := by simp
  rw [this, ← List.append_assoc, once_snoc, once_snoc]
  rfl
theorem at_snoc (k : Int) {l : List Int} {j : Nat} (hj : j < l.length) : (atLv N k (l.take (j + 1))).length = (atLv N k (l.take j)).length + if lvl N l[j] = k then 1 else 0 := by
  rw [take_snoc hj]
  unfold atLv
  rw [List.filter_append, List.length_append]
  congr 1
  by_cases e : lvl N l[j] = k
  · simp [e]
  · simp [e]
/-- a text is handed to a row: it is there once -/
theorem addN_ok {l : List Int} {x : Int} (hl : ∀ y ∈ l, Ok N 0 y) (hx : Ok N 0 x) : ∀ y ∈ addN l x, Ok N 0 y := by
  intro y hy
  unfold addN at hy
  split at hy
  · exact hl y hy
  · rcases List.mem_append.1 hy with h | h
    · exact hl y h
    · simp at h; rw [h]; exact hx

set_option maxRecDepth 100000 in
set_option maxHeartbeats 8000000 in
theorem rcount_any {w : World} {r m ob oo ocap fg fcap : Nat} (hw : Wf N (n : Int) last) (hn8 : n ≤ 8) (o : Ord n) (hc : w.cell? ⟨r, 0, none⟩ = some (.int .i64 (n : Int))) {nm : List Int} (hm : m = nm.length) (hm0 : 0 < m) (hm100 : m ≤ 100) (hok : ∀ y ∈ nm, Ok N 0 y) (hf : ∀ j (hj : j < nm.length), w.cell? ⟨fg, j, none⟩ = some (.string (T N o nm[j])))
    (ho : ∀ k : Nat, k < n → w.cell? ⟨ob, oo + k, none⟩ = some (.int .i64 (o.at_ (k : Int)))) :
    Calls Tryz.prog 97 #[.pointer (some ⟨r, 0, none⟩), .slice (some ⟨fg, 0, none⟩) m fcap, .slice (some ⟨ob, oo, none⟩) n ocap] w fun e w' => e = .returned (.int .i64 ((total N n 0 (once [] nm) : Nat) : Int)) ∧ Keeps [] w w' := by
  obtain ⟨i0, hI0, hz0, hz1, hz2⟩ := info_parts info9
  have hml : 1000000 < maxLen := by decide
  have HR : Hid (∀ j (hj : j < nm.length), w.cell? ⟨fg, j, none⟩ = some (.string (T N o nm[j]))) := hf
  have HOk : Hid (∀ y ∈ nm, Ok N 0 y) := hok
  have HO : Hid (∀ k : Nat, k < n → w.cell? ⟨ob, oo + k, none⟩ = some (.int .i64 (o.at_ (k : Int)))) := ho
  have Hmm : Hid (m = nm.length) := hm
  obtain ⟨TT, hTT⟩ : ∃ TT, TT = total N n 0 (once [] nm) := ⟨_, rfl⟩
  rw [← hTT]
  have HTT : Hid (TT = total N n 0 (once [] nm)) := hTT
  clear hf hok ho hm hTT
  go_enter Tryz.func97, Tryz.ntmps97
  go_wp2_with fail
  go_loopw [8, 9] (fun v x wr => ∃ j : Nat, j ≤ m ∧ x = .int .i64 j ∧ Row wr w.heap.size v o N (once [] (nm.take j)) ∧ Keeps [] w wr) (fun _ x _ => m - (intOf x).toNat)
  case atStart =>
    refine ⟨0, by omega, rfl, ?_, Keeps.refl _ _⟩
    exact World.ownsRow_nil _ _ _ _
  case round =>
    obtain ⟨j, hj, rfl, hrow, hk⟩ := hrel
    by_cases hlt : j < m
    · as_aux_lemma =>
      have hjl : j < nm.length := by rw [← Hmm.out]; exact hlt
      have hj0 : (0 : Int) ≤ (j : Int) := by omega
      have hj1 : (j : Int) < (m : Int) := by omega
      have hcr := hk.cell (HR.out j hjl) (by simp)
      have hx : Ok N 0 nm[j] := HOk.out _ (List.getElem_mem _)
      have hrl := once_length (nm.take j) []
      simp only [List.length_nil, Nat.zero_add, List.length_take] at hrl
      have hin := hrow.has hw (fun y hy => by
        rcases (mem_once _ _ _).1 hy with h | h
        · simp at h
        · exact HOk.out y (List.mem_of_mem_take h)) (by omega) hx
      obtain ⟨x, hxe⟩ : ∃ x, x = nm[j] := ⟨_, rfl⟩
      rw [← hxe] at hin hcr
      have HX : Hid (x = nm[j]) := hxe
      obtain ⟨S, hS⟩ : ∃ S, S = T N o x := ⟨_, rfl⟩
      rw [← hS] at hin hcr
      have HS : Hid (S = T N o x) := hS
      have hbase := hk.size
      have hlr : fg < wr.heap.size := cell_lt (p := ⟨fg, j, none⟩) hcr
      obtain ⟨cur, hcur⟩ : ∃ cur, cur = once [] (nm.take j) := ⟨_, rfl⟩
      have HN : Hid (once [] (nm.take (j + 1)) = if cur.contains x then cur else cur ++ [x]) := by show _ = _; rw [take_snoc hjl, once_snoc, hcur, hxe]
      rw [← hcur] at hrow hin hrl
      have HIN : Hid (Calls Tryz.prog 115 #[u8, .string S] wr fun e w' => e = .returned (.bool (cur.contains x)) ∧ wr = w') := hin
      clear hin hxe hS hx hcur
      cases hb : cur.contains x with
      | true =>
        have HB : Hid (cur.contains x = true) := hb
        clear hb
        go_wp2_with fail
        refine HIN.out.mono ?_
        rintro e w1 ⟨rfl, rfl⟩
        rw [HB.out]
        go_wp2_with fail
        go_roundw
        case rel => exact ⟨j + 1, by omega, by go_num, by rw [HN.out, HB.out]; exact hrow, hk⟩
        case measure => simp [intOf]; omega
      | false =>
        have HB : Hid (cur.contains x = false) := hb
        clear hb
        go_wp2_with fail
        refine HIN.out.mono ?_
        rintro e w1 ⟨rfl, rfl⟩
        rw [HB.out]
        have hown : wr.ownsRow w.heap.size 9 1 u8 cur.length ((cur.map (T N o)).map Value.string) := hrow
        go_wp2_with (first
          | (at_builtin; refine wpList_append_own_at _ rfl _ _ 123 rfl w.heap.size 9 i0 (.string ByteArray.empty) 1 16 Tryz.underlying123 hI0 hz0 hz1 hz2 rfl (by decide) _ cur.length _ rfl (hown.alloc _) ⟨wr.heap.size, 0, none⟩ 1 1 [.string S] rfl rfl (cell_one_new _ _ _) (by simp [Value.oneCell']) (by omega) (by omega) (by simp; omega) ?_; intro v' w1 hown' hgrow hnil hloc)
          | fail)
        go_roundw
        case rel =>
          refine ⟨j + 1, by omega, by go_num, ?_, (hk.alloc _).grown hgrow (fun k hk' => Or.inr (hown.lt k hk').1)⟩
          rw [HN.out, HB.out]
          rw [HS.out] at hown'
          exact Row.add hown' hrow
        case measure => simp [intOf]; omega
    · as_aux_lemma =>
      have e : j = m := by omega
      subst e
      have hnm : nm.take j = nm := by rw [Hmm.out]; exact List.take_length
      rw [hnm] at hrow
      have hnd := once_nodup nm [] List.nodup_nil
      have hon : ∀ y ∈ once [] nm, Ok N 0 y := fun y hy => by
        rcases (mem_once _ _ _).1 hy with h | h
        · simp at h
        · exact HOk.out y h
      have hol := once_length nm []
      simp only [List.length_nil, Nat.zero_add] at hol
      have hol2 : (once [] nm).length ≤ 100 := by have := Hmm.out; omega
      have hpos : 0 < (once [] nm).length := by
        have h0 : 0 < nm.length := by rw [← Hmm.out]; exact hm0
        exact List.length_pos_of_mem ((mem_once nm [] nm[0]).2 (Or.inr (List.getElem_mem _)))
      obtain ⟨nm0, hnm0⟩ : ∃ nm0, nm0 = once [] nm := ⟨_, rfl⟩
      rw [← hnm0] at hrow hnd hon hol2 hpos HTT
      clear hnm hol hnm0 HR HOk
      go_wp2_with fail
      go_loopw [7, 8, 11] (fun c v x wq => ∃ (i cnt : Nat) (cur : List Int), i ≤ n ∧ x = .int .i64 i ∧ c = .int .i64 cnt ∧ cnt + total N (n - i) i cur = TT ∧ cnt ≤ 100000 * i ∧ cur.Nodup ∧ (∀ y ∈ cur, Ok N (i : Int) y) ∧ cur.length ≤ 100 * 2 ^ i ∧ 0 < cur.length ∧ Row wq w.heap.size v o N cur ∧ Keeps [] w wq) (fun _ _ x _ => n - (intOf x).toNat)
      case atStart => exact ⟨0, 0, nm0, by omega, rfl, rfl, by rw [HTT.out]; simp, by omega, hnd, hon, by omega, hpos, hrow, hk⟩
      case round =>
        clear hrow hnd hon hol2 hk hpos
        obtain ⟨i, cnt, cur, hin, rfl, rfl, hsum, hcnt, hnd, hoki, hlen, hpos, hrow, hk⟩ := hrel
        have hcr := hk.cell hc (by simp)
        by_cases hlti : i < n
        · have hi0 : (0 : Int) ≤ (i : Int) := by omega
          have hi1 : (i : Int) < (n : Int) := by omega
          obtain ⟨a0, a1, _⟩ := o.r1 (i : Int) hi0 hi1
          obtain ⟨va, hva⟩ := Int.eq_ofNat_of_zero_le a0
          have hoc := hk.cell (HO.out i hlti) (by simp)
          rw [hva] at hoc
          have hvan : va < n := by omega
          have hp8 : 2 ^ i ≤ 2 ^ 8 := Nat.pow_le_pow_right (by omega) (by omega)
          have hl6 : cur.length ≤ 25600 := by omega
          have Hsum : Hid (cnt + total N (n - i) i cur = TT) := hsum
          have HOK : Hid (∀ y ∈ cur, Ok N (i : Int) y) := hoki
          have HVA : Hid (o.at_ (i : Int) = (va : Int)) := hva
          have Hlen : Hid (cur.length ≤ 100 * 2 ^ i) := hlen
          clear hsum hoki hva a0 a1 hlen hp8
          obtain ⟨wB, hwB⟩ : ∃ wB, wB = wr := ⟨_, rfl⟩
          rw [← hwB] at hrow hk hcr hoc ⊢
          clear hwB
          obtain ⟨L, hL⟩ : ∃ L, L = cur.length := ⟨_, rfl⟩
          have HL : Hid (L = cur.length) := hL
          rw [← hL] at hl6
          have hLp : 0 < L := by omega
          obtain ⟨ng, ncap, hu8, hbg, hlg, _⟩ := hrow.cell hpos
          rw [← hL] at hu8
          subst hu8
          clear hL
          have HROW : Hid (Row wB w.heap.size (.slice (some ⟨ng, 0, none⟩) L ncap) o N cur) := hrow
          have hLi : (L : Int) ≤ 25600 := by omega
          have hc8 : cnt ≤ 800000 := by omega
          go_wp2_with fail
          go_loopw [7, 13, 14] (fun c nx x wq => ∃ j2 : Nat, j2 ≤ L ∧ x = .int .i64 j2 ∧ c = .int .i64 ((cnt + (atLv N i (cur.take j2)).length : Nat) : Int) ∧ Row wq wB.heap.size nx o N (once [] ((cur.take j2).flatMap fun x => [part N x i false, part N x i true])) ∧ Keeps [] wB wq) (fun _ _ x _ => L - (intOf x).toNat)
          case atStart => exact ⟨0, by omega, rfl, by simp [atLv], by simpa [once, Row] using World.ownsRow_nil _ _ _ _, Keeps.refl _ _⟩
          case round =>
            clear hrow
            obtain ⟨j2, hj2, rfl, rfl, hnext, hkq⟩ := hrel
            by_cases hltj : j2 < L
            · have hjl : j2 < cur.length := by rw [← HL.out]; exact hltj
              have hj20 : (0 : Int) ≤ (j2 : Int) := by omega
              have hj21 : (j2 : Int) < (L : Int) := by omega
              obtain ⟨g2, cap2, hs2, _, _, htc⟩ := HROW.out.cell hjl
              have eg : g2 = ng := by simp at hs2; exact hs2.1.symm
              subst eg
              have htc' := hkq.cell htc (by simp)
              have hxk := HOK.out _ (List.getElem_mem hjl)
              have HAT := show Hid _ from at_snoc (N := N) (i : Int) hjl
              have HNX := show Hid _ from next_snoc (N := N) (i : Int) hjl
              obtain ⟨x0, hx0⟩ : ∃ x0, x0 = cur[j2] := ⟨_, rfl⟩
              rw [← hx0] at htc htc' hxk HAT HNX
              have hal : (atLv N i (cur.take j2)).length ≤ 25600 := by
                have h1 := List.length_filter_le (fun x => lvl N x == (i : Int)) (cur.take j2)
                have h2 : (cur.take j2).length ≤ cur.length := by simp; omega
                have h3 := HL.out
                unfold atLv
                omega
              obtain ⟨ca, hca⟩ : ∃ ca, ca = cnt + (atLv N i (cur.take j2)).length := ⟨_, rfl⟩
              have HCA : Hid (ca = cnt + (atLv N i (cur.take j2)).length) := hca
              have hca2 : ca ≤ 900000 := by omega
              rw [← hca]
              obtain ⟨l0, hl0⟩ : ∃ l0, l0 = once [] ((cur.take j2).flatMap fun x => [part N x i false, part N x i true]) := ⟨_, rfl⟩
              rw [← hl0] at hnext HNX
              have HL0 : Hid (l0 = once [] ((cur.take j2).flatMap fun x => [part N x i false, part N x i true])) := hl0
              have hl0len : l0.length ≤ 60000 := by
                rw [hl0]
                have h1 := once_length ((cur.take j2).flatMap fun x => [part N x i false, part N x i true]) []
                have h2 : ((cur.take j2).flatMap fun x => [part N x i false, part N x i true]).length ≤ 2 * cur.length := by
                  have : ∀ l : List Int, (l.flatMap fun x => [part N x i false, part N x i true]).length = 2 * l.length := by
                    intro l
                    induction l with
                    | nil => rfl
                    | cons a l ih => simp [List.flatMap_cons, ih]; omega
                  rw [this]; simp; omega
                have h3 := HL.out
                simp only [List.length_nil, Nat.zero_add] at h1
                omega
              have hl0ok : ∀ y ∈ l0, Ok N 0 y := fun y hy => by
                rw [hl0] at hy
                rcases (mem_once _ _ _).1 hy with h | h
                · simp at h
                · exact mem_flat (fun z hz => HOK.out z (List.mem_of_mem_take hz)) hw hi0 h
              have HOK0 : Hid (∀ y ∈ l0, Ok N 0 y) := hl0ok
              have hcq := hkq.cell hcr (by simp)
              have HXK : Hid (Ok N (i : Int) x0) := hxk
              clear hca hl0 hx0 hal hl0ok hxk
              go_wp2_with fail
              refine (rhangs_any hn8 hcq (FV N o x0) hvan).mono ?_
              rintro e w2 ⟨⟨b, rfl, hb⟩, hk2⟩
              have hbl : b = true ↔ lvl N x0 = (i : Int) := by
                rw [hb]
                have := hangs_text hw hn8 o HXK.out hi0 hi1
                rw [HVA.out, Int.toNat_natCast] at this
                exact this
              have HBL : Hid (b = true ↔ lvl N x0 = (i : Int)) := hbl
              clear hb hbl
              obtain ⟨cb, hcb⟩ : ∃ cb, cb = ca + if lvl N x0 = (i : Int) then 1 else 0 := ⟨_, rfl⟩
              have HCB : Hid (cb = ca + if lvl N x0 = (i : Int) then 1 else 0) := hcb
              have hcb2 : cb ≤ 900001 := by rw [hcb]; split <;> omega
              clear hcb
              go_upto_if 65 with fail
              go_cut [7] (fun c wc => c = .int .i64 (cb : Int) ∧ wc = w2)
              case first =>
                cases b with
                | true =>
                  have e1 : (ca : Int) + 1 = (cb : Int) := by have h1 := HCB.out; rw [if_pos (HBL.out.1 rfl)] at h1; omega
                  have HE1 : Hid ((ca : Int) + 1 = (cb : Int)) := e1
                  clear e1
                  go_wp2_with fail
                  go_meet
                  exact ⟨congrArg (Value.int .i64) HE1.out, rfl⟩
                | false =>
                  have e1 : ca = cb := by have h1 := HCB.out; rw [if_neg (fun h => by have := HBL.out.2 h; cases this)] at h1; omega
                  have HE1 : Hid (ca = cb) := e1
                  clear e1
                  go_wp2_with fail
                  go_meet
                  exact ⟨congrArg (fun z : Nat => Value.int .i64 (z : Int)) HE1.out, rfl⟩
              case rest =>
                obtain ⟨rfl, rfl⟩ := hcut
                have hn2 := hnext.keeps hk2 (by simp)
                go_wp2_with fail
                go_loopw [13, 16] (fun nx x wq => ∃ (q : Nat) (nz : List Int), q ≤ 2 ∧ x = .int .i64 q ∧ nz = (if q = 0 then l0 else if q = 1 then addN l0 (part N x0 i false) else addN (addN l0 (part N x0 i false)) (part N x0 i true)) ∧ Row wq wB.heap.size nx o N nz ∧ Keeps [] wB wq) (fun _ x _ => 2 - (intOf x).toNat)
                case atStart => exact ⟨0, l0, by omega, rfl, rfl, hn2, hkq.trans hk2⟩
                case round =>
                  clear hn2 hnext
                  obtain ⟨q, nz, hq, rfl, hnz0, hnz, hkz⟩ := hrel
                  have hpo : ∀ y ∈ nz, Ok N 0 y := by
                    have h0 := HOK0.out
                    have h1 := addN_ok h0 ((part_ok hw HXK.out false).mono (show (0 : Int) ≤ (i : Int) + 1 by omega))
                    have h2 := addN_ok h1 ((part_ok hw HXK.out true).mono (show (0 : Int) ≤ (i : Int) + 1 by omega))
                    rw [hnz0]; split
                    · exact h0
                    · split
                      · exact h1
                      · exact h2
                  have hnl : nz.length ≤ 60002 := by
                    have h1 := addN_length l0 (part N x0 i false)
                    have h2 := addN_length (addN l0 (part N x0 i false)) (part N x0 i true)
                    rw [hnz0]; split
                    · omega
                    · split <;> omega
                  have HPO : Hid (∀ y ∈ nz, Ok N 0 y) := hpo
                  clear hpo
                  have h012 : q = 0 ∨ q = 1 ∨ q = 2 := by omega
                  rcases h012 with rfl | rfl | rfl
                  · have HNZ : Hid (nz = l0) := (show nz = l0 by simpa using hnz0)
                    clear hnz0
                    have hp0 : Ok N 0 (part N x0 i false) := (part_ok hw HXK.out false).mono (by omega)
                    have HG : Hid (∀ i', i' < 2 ^ n → FV N o (part N x0 i false) (asgN n i') = FV N o x0 (asgN n (putBit i' (n - 1 - va) false))) := by
                      have := given_text hw hn8 o HXK.out hi0 hi1 false
                      rw [HVA.out, Int.toNat_natCast] at this
                      exact this
                    have hcz := hkz.cell hcr (by simp)
                    have htz := hkz.cell htc (by simp)
                    go_wp2_with fail
                    refine (rgiven_any hn8 hcz (FV N o x0) hvan false).mono ?_
                    rintro e w3 ⟨S, rfl, hS, hk3⟩
                    have hS' : S = T N o (part N x0 i false) := hS _ HG.out
                    subst hS'
                    clear hS
                    have hrz := hnz.keeps hk3 (by simp)
                    have hin := hrz.has hw HPO.out (by omega) hp0
                    obtain ⟨y, hy⟩ : ∃ y, y = part N x0 i false := ⟨_, rfl⟩
                    rw [← hy] at hin ⊢
                    obtain ⟨S, hS⟩ : ∃ S, S = T N o y := ⟨_, rfl⟩
                    rw [← hS] at hin ⊢
                    have HIN : Hid (Calls Tryz.prog 115 #[u13, .string S] w3 fun e w' => e = .returned (.bool (nz.contains y)) ∧ w3 = w') := hin
                    have HY : Hid (y = part N x0 i false) := hy
                    have HS : Hid (S = T N o y) := hS
                    have hb3 : wB.heap.size ≤ w3.heap.size := (hkz.trans hk3).size
                    clear hin hy hS hp0 hcz htz
                    cases hbb : nz.contains y with
                    | true =>
                      have HB : Hid (nz.contains y = true) := hbb
                      clear hbb
                      go_wp2_with fail
                      refine HIN.out.mono ?_
                      rintro e w4 ⟨rfl, rfl⟩
                      rw [HB.out]
                      go_wp2_with fail
                      go_roundw
                      case rel => exact ⟨1, nz, by omega, rfl, by show nz = addN l0 (part N x0 i false); rw [← HY.out]; have h1 := HNZ.out; have h2 := HB.out; rw [h1] at h2 ⊢; unfold addN; rw [if_pos h2], hrz, hkz.trans hk3⟩
                      case measure => simp [intOf]
                    | false =>
                      have HB : Hid (nz.contains y = false) := hbb
                      clear hbb
                      go_wp2_with fail
                      refine HIN.out.mono ?_
                      rintro e w4 ⟨rfl, rfl⟩
                      rw [HB.out]
                      have hown : w3.ownsRow wB.heap.size 9 1 u13 nz.length ((nz.map (T N o)).map Value.string) := hrz
                      go_wp2_with (first
                        | (at_builtin; refine wpList_append_own_at _ rfl _ _ 123 rfl wB.heap.size 9 i0 (.string ByteArray.empty) 1 16 Tryz.underlying123 hI0 hz0 hz1 hz2 rfl (by decide) _ nz.length _ rfl (hown.alloc _) ⟨w3.heap.size, 0, none⟩ 1 1 [.string S] rfl rfl (cell_one_new _ _ _) (by simp [Value.oneCell']) (by omega) (by omega) (by simp; omega) ?_; intro v' w5 hown' hgrow hnil hloc)
                        | fail)
                      go_roundw
                      case rel =>
                        rw [HS.out] at hown'
                        exact ⟨1, nz ++ [y], by omega, rfl, by show nz ++ [y] = addN l0 (part N x0 i false); rw [← HY.out]; have h1 := HNZ.out; have h2 := HB.out; rw [h1] at h2 ⊢; unfold addN; rw [h2]; rfl, Row.add hown' hrz, ((hkz.trans hk3).alloc _).grown hgrow (fun k hk' => Or.inr (hown.lt k hk').1)⟩
                      case measure => simp [intOf]
                  · have HNZ : Hid (nz = addN l0 (part N x0 i false)) := (show nz = addN l0 (part N x0 i false) by simpa using hnz0)
                    clear hnz0
                    have hp0 : Ok N 0 (part N x0 i true) := (part_ok hw HXK.out true).mono (by omega)
                    have HG : Hid (∀ i', i' < 2 ^ n → FV N o (part N x0 i true) (asgN n i') = FV N o x0 (asgN n (putBit i' (n - 1 - va) true))) := by
                      have := given_text hw hn8 o HXK.out hi0 hi1 true
                      rw [HVA.out, Int.toNat_natCast] at this
                      exact this
                    have hcz := hkz.cell hcr (by simp)
                    have htz := hkz.cell htc (by simp)
                    go_wp2_with fail
                    refine (rgiven_any hn8 hcz (FV N o x0) hvan true).mono ?_
                    rintro e w3 ⟨S, rfl, hS, hk3⟩
                    have hS' : S = T N o (part N x0 i true) := hS _ HG.out
                    subst hS'
                    clear hS
                    have hrz := hnz.keeps hk3 (by simp)
                    have hin := hrz.has hw HPO.out (by omega) hp0
                    obtain ⟨y, hy⟩ : ∃ y, y = part N x0 i true := ⟨_, rfl⟩
                    rw [← hy] at hin ⊢
                    obtain ⟨S, hS⟩ : ∃ S, S = T N o y := ⟨_, rfl⟩
                    rw [← hS] at hin ⊢
                    have HIN : Hid (Calls Tryz.prog 115 #[u13, .string S] w3 fun e w' => e = .returned (.bool (nz.contains y)) ∧ w3 = w') := hin
                    have HY : Hid (y = part N x0 i true) := hy
                    have HS : Hid (S = T N o y) := hS
                    have hb3 : wB.heap.size ≤ w3.heap.size := (hkz.trans hk3).size
                    clear hin hy hS hp0 hcz htz
                    cases hbb : nz.contains y with
                    | true =>
                      have HB : Hid (nz.contains y = true) := hbb
                      clear hbb
                      go_wp2_with fail
                      refine HIN.out.mono ?_
                      rintro e w4 ⟨rfl, rfl⟩
                      rw [HB.out]
                      go_wp2_with fail
                      go_roundw
                      case rel => exact ⟨2, nz, by omega, rfl, by show nz = addN (addN l0 (part N x0 i false)) (part N x0 i true); rw [← HY.out]; have h1 := HNZ.out; have h2 := HB.out; rw [← h1]; unfold addN; rw [if_pos h2], hrz, hkz.trans hk3⟩
                      case measure => simp [intOf]
                    | false =>
                      have HB : Hid (nz.contains y = false) := hbb
                      clear hbb
                      go_wp2_with fail
                      refine HIN.out.mono ?_
                      rintro e w4 ⟨rfl, rfl⟩
                      rw [HB.out]
                      have hown : w3.ownsRow wB.heap.size 9 1 u13 nz.length ((nz.map (T N o)).map Value.string) := hrz
                      go_wp2_with (first
                        | (at_builtin; refine wpList_append_own_at _ rfl _ _ 123 rfl wB.heap.size 9 i0 (.string ByteArray.empty) 1 16 Tryz.underlying123 hI0 hz0 hz1 hz2 rfl (by decide) _ nz.length _ rfl (hown.alloc _) ⟨w3.heap.size, 0, none⟩ 1 1 [.string S] rfl rfl (cell_one_new _ _ _) (by simp [Value.oneCell']) (by omega) (by omega) (by simp; omega) ?_; intro v' w5 hown' hgrow hnil hloc)
                        | fail)
                      go_roundw
                      case rel =>
                        rw [HS.out] at hown'
                        exact ⟨2, nz ++ [y], by omega, rfl, by show nz ++ [y] = addN (addN l0 (part N x0 i false)) (part N x0 i true); rw [← HY.out]; have h1 := HNZ.out; have h2 := HB.out; rw [← h1]; unfold addN; rw [h2]; rfl, Row.add hown' hrz, ((hkz.trans hk3).alloc _).grown hgrow (fun k hk' => Or.inr (hown.lt k hk').1)⟩
                      case measure => simp [intOf]
                  · go_wp2_with fail
                    go_roundw
                    case rel =>
                      refine ⟨j2 + 1, by omega, by go_num, ?_, ?_, hkz⟩
                      · rw [HAT.out, ← Nat.add_assoc, ← HCA.out, ← HCB.out]
                      · rw [HNX.out]
                        have : nz = addN (addN l0 (part N x0 i false)) (part N x0 i true) := by simpa using hnz0
                        rw [← this]
                        exact hnz
                    case measure => simp [intOf]; omega
            · have e : j2 = L := by omega
              subst e
              have hct : cur.take j2 = cur := by rw [HL.out]; exact List.take_length
              rw [hct] at hnext ⊢
              have hnn : once [] (cur.flatMap fun x => [part N x i false, part N x i true]) = nextN N i cur := rfl
              rw [hnn] at hnext
              have hal : (atLv N i cur).length ≤ 25600 := by
                have h1 := List.length_filter_le (fun x => lvl N x == (i : Int)) cur
                have h3 := HL.out
                unfold atLv
                omega
              obtain ⟨ca, hca⟩ : ∃ ca, ca = cnt + (atLv N i cur).length := ⟨_, rfl⟩
              have HCA : Hid (ca = cnt + (atLv N i cur).length) := hca
              have hca2 : ca ≤ 900000 := by omega
              rw [← hca]
              clear hca
              go_wp2_with fail
              go_roundw
              case rel =>
                refine ⟨i + 1, ca, nextN N i cur, by omega, by go_num, rfl, ?_, ?_, once_nodup _ _ List.nodup_nil, ?_, ?_, ?_, hnext.mono hk.size, hk.trans hkq⟩
                · have h1 := Hsum.out
                  have e1 : n - i = (n - (i + 1)) + 1 := by omega
                  rw [e1, total] at h1
                  rw [HCA.out, ← h1, Nat.add_assoc]
                  have e2 : ((i + 1 : Nat) : Int) = (i : Int) + 1 := by omega
                  rw [e2]
                · have := HCA.out; omega
                · intro y hy
                  obtain ⟨z, hz, e | e⟩ := mem_next.1 hy
                  · rw [e]; exact part_ok hw (HOK.out z hz) false
                  · rw [e]; exact part_ok hw (HOK.out z hz) true
                · have h1 := once_length (cur.flatMap fun x => [part N x i false, part N x i true]) []
                  have h2 : (cur.flatMap fun x => [part N x i false, part N x i true]).length = 2 * cur.length := by
                    have : ∀ l : List Int, (l.flatMap fun x => [part N x i false, part N x i true]).length = 2 * l.length := by
                      intro l
                      induction l with
                      | nil => rfl
                      | cons a l ih => simp [List.flatMap_cons, ih]; omega
                    exact this cur
                  have h3 := Hlen.out
                  rw [h2] at h1
                  simp only [List.length_nil, Nat.zero_add] at h1
                  rw [Nat.pow_succ]
                  show (once [] _).length ≤ _
                  omega
                · have h0 : 0 < cur.length := by rw [← HL.out]; exact hLp
                  exact List.length_pos_of_mem (mem_next.2 ⟨cur[0], List.getElem_mem _, Or.inl rfl⟩)
              case measure => simp [intOf]; omega
        · have e : i = n := by omega
          subst e
          go_wp2_with fail
          go_ret
          refine ⟨?_, hk⟩
          have : cnt = TT := by rw [← hsum, Nat.sub_self]; rfl
          rw [← this]
          rfl
end

end Go.Proofs.YtmgjegokkbghlaaGreat

namespace Go.Proofs.YtmgjegokkbghlaaGreat
open Go.RowKit Go.Maps Bdd
attribute [local go_sem ↓] Go.wp_at_zero Go.wp_at_succ

/-- what is held, cell by cell -/
def flatH (hs : List (Int × ByteArray)) : List Value := hs.flatMap fun p => [.int .i64 p.1, .string p.2]
theorem flatH_snoc (hs : List (Int × ByteArray)) (p : Int × ByteArray) : flatH (hs ++ [p]) = flatH hs ++ [.int .i64 p.1, .string p.2] := by simp [flatH]
theorem flatH_get : ∀ (hs : List (Int × ByteArray)) (j : Nat) (hj : j < hs.length), (flatH hs)[j * 2]? = some (.int .i64 hs[j].1) ∧ (flatH hs)[j * 2 + 1]? = some (.string hs[j].2)
  | [], j, hj => by simp at hj
  | p :: r, 0, hj => by simp [flatH]
  | p :: r, j + 1, hj => by
    have := flatH_get r j (by simpa using hj)
    have e1 : (j + 1) * 2 = j * 2 + 1 + 1 := by omega
    have e3 : flatH (p :: r) = Value.int .i64 p.1 :: Value.string p.2 :: flatH r := by simp [flatH]
    rw [e1, e3]
    simpa using this

/-- what is held in a list of the store's -/
structure Held (w : World) (r : Nat) (lv : Value) (hs : List (Int × ByteArray)) : Prop where
  c4 : w.cell? ⟨r, 4, none⟩ = some lv
  own : w.ownsRow 0 73 2 lv hs.length (flatH hs)
theorem Held.cell {w : World} {r : Nat} {lv : Value} {hs : List (Int × ByteArray)} (h : Held w r lv hs) {j : Nat} (hj : j < hs.length) : ∃ g cap, lv = .slice (some ⟨g, 0, none⟩) hs.length cap ∧ w.cell? ⟨g, j * 2, none⟩ = some (.int .i64 hs[j].1) ∧ w.cell? ⟨g, j * 2 + 1, none⟩ = some (.string hs[j].2) := by
  have hh := h.own
  rcases h.own.2 with ⟨_, h0⟩ | ⟨g, cap, cur, e, hb, hgg, rest⟩
  · omega
  · subst e
    obtain ⟨f1, f2⟩ := flatH_get hs j hj
    refine ⟨g, cap, rfl, ?_, ?_⟩
    · rw [World.ownsRow.cellAt hh (j * 2) (by omega), f1]
    · rw [World.ownsRow.cellAt hh (j * 2 + 1) (by omega), f2]
theorem Held.form {w : World} {r : Nat} {lv : Value} {hs : List (Int × ByteArray)} (h : Held w r lv hs) : ∃ a cap, lv = .slice a hs.length cap := by
  rcases h.own.2 with ⟨e, h0⟩ | ⟨g, cap, cur, e, _⟩
  · exact ⟨none, 0, by rw [e, h0]⟩
  · exact ⟨_, cap, e⟩

/-- what 'of' answers -/
def ofV (hs : List (Int × ByteArray)) (h : Int) : Value := match hs.find? (fun p => p.1 == h) with
  | some p => .tuple #[.string p.2, .bool true]
  | none => .tuple #[.string ByteArray.empty, .bool false]

set_option maxRecDepth 100000 in
set_option maxHeartbeats 1000000 in
theorem rof_any {w : World} {r : Nat} {lv : Value} {hs : List (Int × ByteArray)} (hh : Held w r lv hs) (hl : hs.length ≤ 60) (h : Int) :
    Calls Tryz.prog 42 #[.pointer (some ⟨r, 0, none⟩), .int .i64 h] w fun e w' => e = .returned (ofV hs h) ∧ w = w' := by
  obtain ⟨a, cap, rfl⟩ := hh.form
  have c4 := hh.c4
  obtain ⟨m, hm⟩ : ∃ m, m = hs.length := ⟨_, rfl⟩
  rw [← hm] at hh c4 hl
  obtain ⟨V, hV⟩ : ∃ V, V = ofV hs h := ⟨_, rfl⟩
  rw [← hV]
  have HV : Hid (V = ofV hs h) := hV
  have Hm : Hid (m = hs.length) := hm
  have HH : Hid (Held w r (.slice a m cap) hs) := hh
  clear hV hh hm
  go_enter Tryz.func42, Tryz.ntmps42
  go_wp2_with fail
  go_loopw [6] (fun x wr => ∃ j : Nat, j ≤ m ∧ x = .int .i64 j ∧ (∀ i (hi : i < hs.length), i < j → hs[i].1 ≠ h) ∧ w = wr) (fun x _ => m - (intOf x).toNat)
  case atStart => exact ⟨0, by omega, rfl, fun i _ hi => by omega, rfl⟩
  case round =>
    obtain ⟨j, hj, rfl, hall, rfl⟩ := hrel
    by_cases hlt : j < m
    · have hj0 : (0 : Int) ≤ (j : Int) := by omega
      have hj1 : (j : Int) < (m : Int) := by omega
      have hjl : j < hs.length := by rw [← Hm.out]; exact hlt
      obtain ⟨g, cap', e, h1, h2⟩ := HH.out.cell hjl
      have ea : a = some ⟨g, 0, none⟩ := by simp at e; exact e.1
      subst ea
      obtain ⟨x, hx⟩ : ∃ x, x = hs[j].1 := ⟨_, rfl⟩
      obtain ⟨S, hS⟩ : ∃ S, S = hs[j].2 := ⟨_, rfl⟩
      rw [← hx] at h1
      rw [← hS] at h2
      have HX : Hid (x = hs[j].1) := hx
      have HS : Hid (S = hs[j].2) := hS
      clear hx hS e
      by_cases ex : x = h
      · have e' : (x == h) = true := by simp [ex]
        have HE : Hid (V = .tuple #[.string S, .bool true]) := by
          show V = _
          rw [HV.out]
          unfold ofV
          have hf : hs.find? (fun p => p.1 == h) = some hs[j] := by
            rw [List.find?_eq_some_iff_getElem]
            refine ⟨by simp [← HX.out, ex], j, hjl, rfl, fun i hi => ?_⟩
            have := hall i (by omega) hi
            simpa using this
          rw [hf, HS.out]
        clear ex
        go_wp2_with fail
        go_ret2
        exact ⟨by rw [HE.out]; rfl, by first | rfl | trivial⟩
      · have e' : (x == h) = false := by simp [ex]
        have HE : Hid (x ≠ h) := ex
        clear ex
        go_wp2_with fail
        go_roundw
        case rel =>
          refine ⟨j + 1, by omega, by go_num, fun i hi hij => ?_, by first | rfl | trivial⟩
          by_cases ei : i = j
          · subst ei; rw [← HX.out]; exact HE.out
          · exact hall i hi (by omega)
        case measure => simp [intOf]; omega
    · have e : j = m := by omega
      subst e
      have HE : Hid (V = .tuple #[.string ByteArray.empty, .bool false]) := by
        show V = _
        rw [HV.out]
        unfold ofV
        have hf : hs.find? (fun p => p.1 == h) = none := by
          rw [List.find?_eq_none]
          intro p hp
          obtain ⟨i, hi, rfl⟩ := List.getElem_of_mem hp
          have := hall i hi (by rw [Hm.out]; exact hi)
          simpa using this
        rw [hf]
      go_wp2_with fail
      go_ret2
      exact ⟨by rw [HE.out]; rfl, by first | rfl | trivial⟩

end Go.Proofs.YtmgjegokkbghlaaGreat

namespace Go.Proofs.YtmgjegokkbghlaaGreat
open Go.RowKit Go.Maps Bdd
attribute [local go_sem ↓] Go.wp_at_zero Go.wp_at_succ

theorem Held.keeps {w w' : World} {r : Nat} {lv : Value} {hs : List (Int × ByteArray)} {S : List Nat} (h : Held w r lv hs) (hk : Keeps S w w') (hr : r ∉ S) (hS : ∀ g, lv.ownBlock = some g → g ∉ S) : Held w' r lv hs := by
  refine ⟨hk.cell h.c4 hr, h.own.1, ?_⟩
  rcases h.own.2 with h' | ⟨g, cap, cur, rfl, hbg, hg, rest⟩
  · exact .inl h'
  · refine .inr ⟨g, cap, cur, rfl, hbg, ?_, rest⟩
    rw [hk.block g (Array.getElem?_eq_some_iff.1 hg).1 (hS g rfl)]
    exact hg

/-- the texts of what is held -/
def texts (hs : List (Int × ByteArray)) : List Value := hs.map fun p => .string p.2

set_option maxRecDepth 100000 in
set_option maxHeartbeats 1000000 in
theorem rall_any {w : World} {r : Nat} {lv : Value} {hs : List (Int × ByteArray)} (hh : Held w r lv hs) (hl : hs.length ≤ 60) :
    Calls Tryz.prog 98 #[.pointer (some ⟨r, 0, none⟩)] w fun e w' => ∃ v, e = .returned v ∧ w'.ownsRow w.heap.size 9 1 v hs.length (texts hs) ∧ Keeps [] w w' := by
  obtain ⟨i0, hI0, hz0, hz1, hz2⟩ := info_parts info9
  have hml : 1000000 < maxLen := by decide
  obtain ⟨a, cap, rfl⟩ := hh.form
  have c4 := hh.c4
  obtain ⟨m, hm⟩ : ∃ m, m = hs.length := ⟨_, rfl⟩
  rw [← hm] at hh c4 hl
  rw [← hm]
  have Hm : Hid (m = hs.length) := hm
  have HH : Hid (Held w r (.slice a m cap) hs) := hh
  clear hh hm
  go_enter Tryz.func98, Tryz.ntmps98
  go_wp2_with fail
  go_loopw [3, 4] (fun v x wr => ∃ j : Nat, j ≤ m ∧ x = .int .i64 j ∧ wr.ownsRow w.heap.size 9 1 v j (texts (hs.take j)) ∧ Keeps [] w wr) (fun _ x _ => m - (intOf x).toNat)
  case atStart => exact ⟨0, by omega, rfl, World.ownsRow_nil _ _ _ _, Keeps.refl _ _⟩
  case round =>
    obtain ⟨j, hj, rfl, hown, hk⟩ := hrel
    have hbase := hk.size
    have c4' := hk.cell c4 (by simp)
    by_cases hlt : j < m
    · have hj0 : (0 : Int) ≤ (j : Int) := by omega
      have hj1 : (j : Int) < (m : Int) := by omega
      have hjl : j < hs.length := by rw [← Hm.out]; exact hlt
      obtain ⟨g, cap', e, h1, h2⟩ := HH.out.cell hjl
      have ea : a = some ⟨g, 0, none⟩ := by simp at e; exact e.1
      subst ea
      obtain ⟨S, hS⟩ : ∃ S, S = hs[j].2 := ⟨_, rfl⟩
      rw [← hS] at h2
      have h2' := hk.cell h2 (by simp)
      have HT : Hid (texts (hs.take (j + 1)) = texts (hs.take j) ++ [.string S]) := by show _ = _; rw [take_snoc hjl, hS]; simp only [texts, List.map_append, List.map_cons, List.map_nil]
      clear hS e h1 h2
      go_wp2_with (first
        | (at_builtin; refine wpList_append_own_at _ rfl _ _ 123 rfl w.heap.size 9 i0 (.string ByteArray.empty) 1 16 Tryz.underlying123 hI0 hz0 hz1 hz2 rfl (by decide) _ j _ rfl (hown.alloc _) ⟨wr.heap.size, 0, none⟩ 1 1 [.string S] rfl rfl (cell_one_new _ _ _) (by simp [Value.oneCell']) (by omega) (by omega) (by simp; omega) ?_; intro v' w1 hown' hgrow hnil hloc)
        | fail)
      go_roundw
      case rel =>
        refine ⟨j + 1, by omega, by go_num, ?_, (hk.alloc _).grown hgrow (fun k hk' => Or.inr (hown.lt k hk').1)⟩
        rw [HT.out]
        exact hown'
      case measure => simp [intOf]; omega
    · have e : j = m := by omega
      subst e
      have HT : Hid (texts (hs.take j) = texts hs) := by show _ = _; rw [List.take_of_length_le (by rw [← Hm.out]; exact Nat.le_refl _)]
      go_wp2_with fail
      go_ret
      exact ⟨_, rfl, by rw [← HT.out]; exact hown, hk⟩

/-- what 'Same' answers -/
def sameV (hs : List (Int × ByteArray)) (f g : Int) : Value := match hs.find? (fun p => p.1 == f), hs.find? (fun p => p.1 == g) with
  | some p, some q => .tuple #[.bool (p.2.toList == q.2.toList), .int .i64 0]
  | _, _ => .tuple #[.bool false, .int .i64 2]

set_option maxRecDepth 100000 in
set_option maxHeartbeats 1000000 in
theorem rsame_any {w : World} {r : Nat} {lv : Value} {hs : List (Int × ByteArray)} (hh : Held w r lv hs) (hl : hs.length ≤ 60) (f g : Int) :
    Calls Tryz.prog 49 #[.pointer (some ⟨r, 0, none⟩), .int .i64 f, .int .i64 g] w fun e w' => e = .returned (sameV hs f g) ∧ w = w' := by
  have hf := rof_any hh hl f
  have hg := rof_any hh hl g
  have HF : Hid (Calls Tryz.prog 42 #[.pointer (some ⟨r, 0, none⟩), .int .i64 f] w fun e w' => e = .returned (ofV hs f) ∧ w = w') := hf
  have HG : Hid (Calls Tryz.prog 42 #[.pointer (some ⟨r, 0, none⟩), .int .i64 g] w fun e w' => e = .returned (ofV hs g) ∧ w = w') := hg
  clear hf hg hh
  unfold ofV at HF HG
  unfold sameV
  cases ef : hs.find? (fun p => p.1 == f) <;> cases eg : hs.find? (fun p => p.1 == g) <;> rw [ef] at HF <;> rw [eg] at HG <;> simp only [] <;> clear ef eg <;>
  ( go_enter Tryz.func49, Tryz.ntmps49
    go_wp2_with fail
    refine HF.out.mono ?_
    rintro e w1 ⟨rfl, rfl⟩
    go_wp2_with fail
    refine HG.out.mono ?_
    rintro e w1 ⟨rfl, rfl⟩
    go_wp2_with fail
    go_ret2
    exact ⟨rfl, by first | rfl | trivial⟩)

/-- of how many of the first j assignments -/
def trues (n : Nat) (F : (Int → Bool) → Bool) (j : Nat) : Nat := ((List.range j).filter fun i => F (asgN n i)).length
theorem trues_succ (n : Nat) (F : (Int → Bool) → Bool) (j : Nat) : ((trues n F (j + 1) : Nat) : Int) = (trues n F j : Int) + bI (F (asgN n j)) := by
  unfold trues
  rw [List.range_succ, List.filter_append]
  cases h : F (asgN n j) <;> simp [h, bI]
theorem trues_le (n : Nat) (F : (Int → Bool) → Bool) (j : Nat) : trues n F j ≤ j := by
  unfold trues
  exact Nat.le_trans (List.length_filter_le _ _) (by simp)

set_option maxRecDepth 100000 in
set_option maxHeartbeats 1000000 in
theorem rtrue_some {w : World} {r n : Nat} {lv : Value} {hs : List (Int × ByteArray)} (hn8 : n ≤ 8) (hh : Held w r lv hs) (hl : hs.length ≤ 60) {f : Int} {F : (Int → Bool) → Bool} {p : Int × ByteArray} (hf : hs.find? (fun p => p.1 == f) = some p) (hp : p.2 = txt n F) :
    Calls Tryz.prog 56 #[.pointer (some ⟨r, 0, none⟩), .int .i64 f] w fun e w' => e = .returned (.tuple #[.int .i64 (trues n F (2 ^ n) : Int), .int .i64 0]) ∧ w = w' := by
  have hf := rof_any hh hl f
  have hp8 : 2 ^ n ≤ 2 ^ 8 := Nat.pow_le_pow_right (by omega) hn8
  have hlen : ∀ ty (w : World), (Builtin.len_ #[9] ty #[.string (txt n F)]).run Tryz.prog w = .ok (goInt ((2 ^ n : Nat) : Int)) w := fun ty w => by rw [run_len_string w 9 ty (txt n F) Tryz.underlying9, txt_size]
  unfold ofV at hf
  rw [‹hs.find? (fun p => p.1 == f) = some p›] at hf
  simp only [hp] at hf
  obtain ⟨S, hS⟩ : ∃ S, S = txt n F := ⟨_, rfl⟩
  obtain ⟨M, hM⟩ : ∃ M, M = 2 ^ n := ⟨_, rfl⟩
  have HI : Hid (∀ (i : Nat) (w : World), i < M → (Instr.index 9 (.string S) (.int .i64 (i : Int))).run Tryz.prog w = .ok (.int .u8 (bI (F (asgN n i)))) w) := fun i w hi => by rw [hS]; exact txt_index F (by omega) w
  rw [← hS] at hlen hf
  rw [← hM] at hlen hp8 ⊢
  have HF : Hid (Calls Tryz.prog 42 #[.pointer (some ⟨r, 0, none⟩), .int .i64 f] w fun e w' => e = .returned (.tuple #[.string S, .bool true]) ∧ w = w') := hf
  clear hf hS hM hp hh
  go_enter Tryz.func56, Tryz.ntmps56
  go_wp2_with fail
  refine HF.out.mono ?_
  rintro e w1 ⟨rfl, rfl⟩
  go_wp2_with fail
  go_loopw [8, 9] (fun v x wr => ∃ j : Nat, j ≤ M ∧ x = .int .i64 j ∧ v = .int .i64 (trues n F j : Int) ∧ w = wr) (fun _ x _ => M - (intOf x).toNat)
  case atStart => exact ⟨0, by omega, rfl, rfl, rfl⟩
  case round =>
    obtain ⟨j, hj, rfl, rfl, rfl⟩ := hrel
    by_cases hlt : j < M
    · have hj0 : (0 : Int) ≤ (j : Int) := by omega
      have hj1 : (j : Int) < (M : Int) := by omega
      have i2 := fun w => HI.out j w hlt
      have hle := trues_le n F j
      have HN : Hid (((trues n F (j + 1) : Nat) : Int) = (trues n F j : Int) + bI (F (asgN n j))) := trues_succ n F j
      have hy01 : 0 ≤ bI (F (asgN n j)) ∧ bI (F (asgN n j)) ≤ 1 := by cases F (asgN n j) <;> simp [bI]
      obtain ⟨hy0, hy1⟩ := hy01
      generalize bI (F (asgN n j)) = y at *
      generalize trues n F j = t at *
      have ht0 : (0 : Int) ≤ (t : Int) := by omega
      go_wp2_with fail
      go_roundw
      case rel => exact ⟨j + 1, by omega, by go_num, by rw [HN.out], by first | rfl | trivial⟩
      case measure => simp [intOf]; omega
    · have e : j = M := by omega
      subst e
      go_wp2_with fail
      go_ret2
      exact ⟨rfl, by first | rfl | trivial⟩

set_option maxRecDepth 100000 in
set_option maxHeartbeats 1000000 in
theorem rtrue_none {w : World} {r : Nat} {lv : Value} {hs : List (Int × ByteArray)} (hh : Held w r lv hs) (hl : hs.length ≤ 60) {f : Int} (hn : hs.find? (fun p => p.1 == f) = none) :
    Calls Tryz.prog 56 #[.pointer (some ⟨r, 0, none⟩), .int .i64 f] w fun e w' => e = .returned (.tuple #[.int .i64 0, .int .i64 2]) ∧ w = w' := by
  have hf := rof_any hh hl f
  unfold ofV at hf
  rw [hn] at hf
  simp only [] at hf
  have HF : Hid (Calls Tryz.prog 42 #[.pointer (some ⟨r, 0, none⟩), .int .i64 f] w fun e w' => e = .returned (.tuple #[.string ByteArray.empty, .bool false]) ∧ w = w') := hf
  clear hf hh hn
  go_enter Tryz.func56, Tryz.ntmps56
  go_wp2_with fail
  refine HF.out.mono ?_
  rintro e w1 ⟨rfl, rfl⟩
  go_wp2_with fail
  go_ret2
  exact ⟨rfl, by first | rfl | trivial⟩

end Go.Proofs.YtmgjegokkbghlaaGreat
