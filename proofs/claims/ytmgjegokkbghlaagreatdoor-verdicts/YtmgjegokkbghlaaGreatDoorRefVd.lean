/- The document's circuit in memory; both. The document's both and Bad, walked. The document's Step, walked. The document's First, walked. The list of steps in memory; truth values in memory; numbers and their digits. The document's Truth, walked. The document's Made and Allowed, walked. The document's Read, walked. Verdicts, walked. -/
import Derived.Test.YtmgjegokkbghlaaGreatDoorRefWr
import Derived.Test.YtmgjegokkbghlaaGreatDoorRefPl
import Derived.Laws.AppendOwnNone
import Derived.Test.YtmgjegokkbghlaaGreatDoorVerd
import Derived.OwnWalk
import Derived.Test.YtmgjegokkbghlaaGreatDoorRefSay
import Derived.Test.YtmgjegokkbghlaaGreatDoorCheckC
namespace Go.Proofs.YtmgjegokkbghlaaGreatDoor
open Go.RowKit Go.Maps Gram Circ
set_option linter.unusedVariables false

/-- THE DOCUMENT'S CIRCUIT in memory -/
def CD (w : World) (a0 : Option Addr) (n0 c0 : Nat) (a1 : Option Addr) (n1 c1 : Nat) (a2 : Option Addr) (n2 c2 : Nat) (ls : List Ln) : Prop :=
  LD w (.slice a0 n0 c0) ls ∧ Wds w 0 (.slice a1 n1 c1) (named 2 ls) ∧ Wds w 0 (.slice a2 n2 c2) (named 1 ls)
theorem CD.keeps {w w' : World} {a0 : Option Addr} {n0 c0 : Nat} {a1 : Option Addr} {n1 c1 : Nat} {a2 : Option Addr} {n2 c2 : Nat} {ls : List Ln} (h : CD w a0 n0 c0 a1 n1 c1 a2 n2 c2 ls) (hk : Keeps [] w w') : CD w' a0 n0 c0 a1 n1 c1 a2 n2 c2 ls :=
  ⟨h.1.keeps hk, h.2.1.keeps hk (by simp), h.2.2.keeps hk (by simp)⟩
/-- the circuit in a box of its own -/
theorem box_cells (w : World) (u0 u1 u2 : Value) (t : TypeId) : (w.alloc (.cells #[u0, u1, u2] t)).cell? ⟨w.heap.size, 0, none⟩ = some u0 ∧ (w.alloc (.cells #[u0, u1, u2] t)).cell? ⟨w.heap.size, 1, none⟩ = some u1 ∧ (w.alloc (.cells #[u0, u1, u2] t)).cell? ⟨w.heap.size, 2, none⟩ = some u2 :=
  ⟨by simp, by simp, by simp⟩
/-- truth values in memory, a list that may be appended -/
def TS (w : World) (v : Value) (bs : List Bool) : Prop := BS w v bs ∧ ((v = .slice none 0 0 ∧ bs = []) ∨ ∃ b cap, v = .slice (some ⟨b, 0, none⟩) bs.length cap)
theorem TS.keeps {w w' : World} {v : Value} {bs : List Bool} (h : TS w v bs) (hk : Keeps [] w w') : TS w' v bs := ⟨h.1.keeps hk, h.2⟩
theorem TS.ofRow {w : World} {base : Nat} {v : Value} {bs : List Bool} (h : w.ownsRow base 4 1 v bs.length (bs.map Value.bool)) : TS w v bs := by
  refine ⟨BS.ofRow h, ?_⟩
  rcases h.2 with ⟨h0, h1⟩ | ⟨g, cap, cur, hv, _⟩
  · exact Or.inl ⟨h0, List.length_eq_zero_iff.1 h1⟩
  · exact Or.inr ⟨g, cap, hv⟩
/-- what is appended, in memory -/
def Src (w : World) (v : Value) (news : List Value) : Prop := (v = .slice none 0 0 ∧ news = []) ∨ ∃ ad c, v = .slice (some ad) news.length c ∧ ∀ j u, news[j]? = some u → w.cell? (ad.add j) = some u
theorem TS.src {w : World} {v : Value} {bs : List Bool} (h : TS w v bs) : Src w v (bs.map Value.bool) := by
  rcases h.2 with ⟨h0, h1⟩ | ⟨b, cap, hv⟩
  · exact Or.inl ⟨h0, by rw [h1]; rfl⟩
  · refine Or.inr ⟨⟨b, 0, none⟩, cap, by rw [List.length_map]; exact hv, fun j u hj => ?_⟩
    obtain ⟨a, cap', e, hc⟩ := h.1
    rw [hv] at e
    obtain ⟨rfl, _⟩ : some ⟨b, 0, none⟩ = a ∧ cap = cap' := by simpa using e
    rw [List.getElem?_map] at hj
    obtain ⟨x, hx, rfl⟩ := Option.map_eq_some_iff.1 hj
    obtain ⟨hjl, rfl⟩ := List.getElem?_eq_some_iff.1 hx
    obtain ⟨b', o', e', _, hcell⟩ := hc j hjl
    obtain ⟨rfl, rfl⟩ : b = b' ∧ 0 = o' := by simpa using e'
    rw [Addr.add_mid]
    exact hcell
theorem Wds.src {w : World} {base : Nat} {v : Value} {l : List W} (h : Wds w base v l) : Src w v (l.map Value.string) := by
  have hh := h
  rcases h.2 with ⟨h0, h1⟩ | ⟨g, cap, cur, hv, hb, hgg, rest⟩
  · exact Or.inl ⟨h0, by rw [List.length_eq_zero_iff.1 h1]; rfl⟩
  · refine Or.inr ⟨⟨g, 0, none⟩, cap, by rw [List.length_map]; exact hv, fun j u hj => ?_⟩
    exact World.ownsRow.cells hh (g := g) (by rw [hv]; rfl) j u hj
theorem Src.keeps {w w' : World} {v : Value} {news : List Value} (h : Src w v news) (hk : Keeps [] w w') : Src w' v news := by
  rcases h with h | ⟨ad, c, h1, h2⟩
  · exact Or.inl h
  · exact Or.inr ⟨ad, c, h1, fun j u hj => hk.cell (h2 j u hj) (by simp)⟩
theorem wpList_append_src {P : Program} {w : World} {ops : Array Oper} {rest : List Oper} {o : Oper} {a : Act} {Q : Exit → Act → World → Prop} (hgd : o.guard = none) (s x : Operand) (t : TypeId)
    (ho : o.op = .call { callee := .builtin .append, args := #[s, x], argTypes := #[t, t] })
    (base : Nat) (e : TypeId) (i : TypeInfo) (z : Value) (bytes : Nat) (ht : P.underlying t = some (.slice e)) (hi : P.info? e = some i) (hz : i.zero = some z)
    (hsize : i.size = 1) (hby : i.bytes = bytes) (hzs : z.cells.size = 1)
    (v : Value) (n : Nat) (xs : List Value) (hs : a.eval s = v) (hown : w.ownsRow base e 1 v n xs)
    (xv : Value) (hx : a.eval x = xv) (news : List Value) (hsrc : Src w xv news) (h1 : ∀ u ∈ news, u.oneCell' = true)
    (h63 : n + news.length ≤ maxLen) (hbytes : (n + news.length) * bytes ≤ 140737488355328) (hbase : base ≤ w.heap.size)
    (h : ∀ v' w', w'.ownsRow base e 1 v' (n + news.length) (xs ++ news) → Keeps (v.ownBlock.toList) w w' → wpList P ops Q rest (a.put o.dst v') w') :
    wpList P ops Q (o :: rest) a w := by
  rcases hsrc with ⟨h0, hn⟩ | ⟨ad, c, h0, hc⟩
  · subst hn
    refine wpList_append_own_none hgd s x t ho base e i 1 ht hi v n xs hs hown (hx.trans h0) (h v w ?_ (Keeps.refl _ _))
    rw [List.append_nil]
    exact hown
  · refine wpList_append_own_at _ hgd s x t ho base e i z 1 bytes ht hi hz hsize hby hzs (by decide) v n xs hs hown ad news.length c news (hx.trans h0) (by omega) hc h1 h63 hbytes hbase ?_
    intro v' w' hown' hg _ _
    exact h v' w' hown' ((Keeps.refl _ _).grown hg (fun k e => Or.inl (by simp [e])))

end Go.Proofs.YtmgjegokkbghlaaGreatDoor

namespace Go.Proofs.YtmgjegokkbghlaaGreatDoor
open Go.RowKit Go.Maps Gram Circ
set_option linter.unusedVariables false

theorem comes_ev {w : World} {v : Value} {ws : List W} {ex : Ex} (hv : WS w v ws) (hl : ws.length ≤ 1000) (hG : G 0 8 ws ex) {nv bv : Value} {ns : List W} {bs : List Bool} (hn : WS w nv ns) (hnl : ns.length ≤ 2000) (hb : BS w bv bs) (hbl : bs.length = ns.length) (hnm : ∀ n ∈ ns, isName n = true) :
    Calls Tryz.prog 47 #[v, .int .i64 0, .int .i64 8, nv, bv] w fun e w' => e = .returned (.tuple #[.bool (ex.ev (Circ.look ns bs)), .bool true]) ∧ Keeps [] w w' := by
  refine Calls.mono (comes_any _ w v ws 0 8 nv bv ns bs rfl hv (by omega) (by omega) (by omega) (by omega) hn hnl hb hbl hnm) ?_
  rintro en w' ⟨x, ok, rfl, hc, hk⟩
  obtain ⟨h1, h2⟩ := hc (by omega)
  have e1 : ok = true := h1.2 ⟨ex, hG⟩
  have e2 := h2 ex hG
  rw [e1, e2]
  exact ⟨rfl, hk⟩
theorem names_are {ls : List Ln} (h : ∀ x ∈ ls, LnD x) : ∀ n ∈ named 2 ls ++ named 1 ls, isName n = true := by
  intro n hn
  rcases List.mem_append.1 hn with hn | hn
  · obtain ⟨x, hx, rfl⟩ := List.mem_map.1 hn
    obtain ⟨h1, h2⟩ := List.mem_filter.1 hx
    exact (h x h1).name (Or.inr (Or.inl (by simpa using h2)))
  · obtain ⟨x, hx, rfl⟩ := List.mem_map.1 hn
    obtain ⟨h1, h2⟩ := List.mem_filter.1 hx
    exact (h x h1).name (Or.inl (by simpa using h2))
theorem named_le (k : Nat) (ls : List Ln) : (named k ls).length ≤ ls.length := by
  unfold named; rw [List.length_map]; exact List.length_filter_le _ _
theorem named_two (ls : List Ln) : (named 2 ls).length + (named 1 ls).length ≤ ls.length := by
  rw [named_howMany, named_howMany]
  unfold Circ.howMany
  induction ls with
  | nil => simp
  | cons x r ih =>
    rw [List.countP_cons, List.countP_cons, List.length_cons]
    by_cases h2 : x.kind = 2
    · simp [h2]; omega
    · by_cases h1 : x.kind = 1
      · simp [h1]; omega
      · simp [h1, h2]; omega
theorem LD.few {w : World} {v : Value} {ls : List Ln} (h : LD w v ls) : ls.length ≤ 1001 ∧ ∀ x ∈ ls, LnD x := by
  obtain ⟨g, cap, _, _, _, h4, h5, _⟩ := h
  exact ⟨h4, h5⟩
theorem Wds.far {w w1 w2 : World} {base : Nat} {v : Value} {l : List W} {u : Value} {b2 T k n : Nat} {xs : List Value} (h : Wds w1 base v l) (hr : w1.ownsRow b2 T k u n xs) (hlt : ∀ b, v.ownBlock = some b → b < b2) (hk : Keeps (u.ownBlock.toList) w1 w2) : Wds w2 base v l := by
  refine ⟨h.1, ?_⟩
  rcases h.2 with h0 | ⟨g, cap, cur, h1, h2, h3, h4⟩
  · exact Or.inl h0
  · refine Or.inr ⟨g, cap, cur, h1, h2, ?_, h4⟩
    rw [hk.block g (Array.getElem?_eq_some_iff.1 h3).1 ?_]
    · exact h3
    · intro hm
      have e : u.ownBlock = some g := by simpa using hm
      have := own_base hr g e
      have := hlt g (by rw [h1]; rfl)
      omega
theorem Wds.lt' {w : World} {base : Nat} {v : Value} {l : List W} (h : Wds w base v l) : ∀ b, v.ownBlock = some b → b < w.heap.size := by
  intro b e
  rcases h.2 with ⟨h0, _⟩ | ⟨g, cap, cur, h1, h2, h3, h4⟩
  · rw [h0] at e; cases e
  · rw [h1] at e; cases e; exact (Array.getElem?_eq_some_iff.1 h3).1

theorem bools_one (l : List Bool) : ∀ u ∈ l.map Value.bool, u.oneCell' = true := by
  intro u hu
  obtain ⟨b, _, rfl⟩ := List.mem_map.1 hu
  rfl
theorem keep_own {w w1 w2 : World} {T k n : Nat} {v : Value} {xs : List Value} (h : w1.ownsRow w.heap.size T k v n xs) (hk : Keeps [] w w1) (hk2 : Keeps (v.ownBlock.toList) w1 w2) : Keeps [] w w2 := by
  refine ((hk.mono (S' := v.ownBlock.toList) (by simp)).trans hk2).strike (fun i hi hlt => ?_)
  have := own_base h i (by simpa using hi)
  omega

set_option maxRecDepth 100000 in
set_option maxHeartbeats 4000000 in
theorem rboth_any {w : World} {a0 : Option Addr} {n0 c0 : Nat} {a1 : Option Addr} {n1 c1 : Nat} {a2 : Option Addr} {n2 c2 : Nat} {ls : List Ln} (hc : CD w a0 n0 c0 a1 n1 c1 a2 n2 c2 ls) {sv iv : Value} {ss is : List Bool} (hs : TS w sv ss) (hi : TS w iv is) (hsl : ss.length = (named 2 ls).length) (hil : is.length = (named 1 ls).length) :
    Calls Tryz.prog 52 #[.agg #[.slice a0 n0 c0, .slice a1 n1 c1, .slice a2 n2 c2], sv, iv] w fun e w' => ∃ u1 u2, e = .returned (.tuple #[u1, u2]) ∧ Wds w' w.heap.size u1 (named 2 ls ++ named 1 ls) ∧ BS w' u2 (ss ++ is) ∧ Keeps [] w w' := by
  obtain ⟨i0, hi0, hz0, hz1, hz2⟩ := info_parts infoStr
  obtain ⟨i1, hi1, hy0, hy1, hy2⟩ := info_parts infoB
  have hml : 2000000 < maxLen := by decide
  have hfew := hc.1.few.1
  have hf1 := named_le 2 ls
  have hf2 := named_le 1 ls
  have S1 := hid_intro hc.2.1.src
  have S2 := hid_intro hc.2.2.src
  have S3 := hid_intro hs.src
  have S4 := hid_intro hi.src
  obtain ⟨A, hA⟩ : ∃ A, A = named 2 ls := ⟨_, rfl⟩
  obtain ⟨B, hB⟩ : ∃ B, B = named 1 ls := ⟨_, rfl⟩
  rw [← hA] at S1 hf1 hsl ⊢
  rw [← hB] at S2 hf2 hil ⊢
  obtain ⟨sa, sn, sc, rfl⟩ : ∃ a n c, sv = .slice a n c := by obtain ⟨a, cap, e, _⟩ := hs.1; exact ⟨_, _, _, e⟩
  obtain ⟨ia, inn, ic, rfl⟩ : ∃ a n c, iv = .slice a n c := by obtain ⟨a, cap, e, _⟩ := hi.1; exact ⟨_, _, _, e⟩
  have hsl' : ss.length ≤ 1001 := by omega
  have hil' : is.length ≤ 1001 := by omega
  have hfA : A.length ≤ 1001 := by omega
  have hfB : B.length ≤ 1001 := by omega
  clear hA hB hc hs hi hf1 hf2 hsl hil
  go_enter Tryz.func52, Tryz.ntmps52
  go_upto_region 1 with fail
  obtain ⟨wb, hwb⟩ : ∃ wb, wb = w.alloc (.cells #[.slice a0 n0 c0, .slice a1 n1 c1, .slice a2 n2 c2] 34) := ⟨_, rfl⟩
  have hkb : Keeps [] w wb := by rw [hwb]; exact (Keeps.refl _ _).alloc _
  obtain ⟨z0, z1, z2⟩ := box_cells w (.slice a0 n0 c0) (.slice a1 n1 c1) (.slice a2 n2 c2) 34
  rw [← hwb] at z0 z1 z2 ⊢
  have hsb := hkb.size
  have T1 := hid_intro (S1.out.keeps hkb)
  clear hwb z0 S1
  go_wp2_with (first
    | (at_builtin; refine wpList_append_src rfl _ _ 32 rfl w.heap.size 9 i0 (.string ByteArray.empty) 16 Tryz.underlying32 hi0 hz0 hz1 hz2 rfl (.slice none 0 0) 0 [] rfl (World.ownsRow_nil _ _ _ _) (.slice a1 n1 c1) rfl (A.map Value.string) T1.out (by simp [Value.oneCell']) (by simp; omega) (by simp; omega) hsb ?_; intro v1 w1 hown1 hk1; have O1 := hid_intro hown1; have hk1 : Keeps [] wb w1 := hk1; have z2' := hk1.cell z2 (by simp); have hsz1 := hk1.size; have T2 := hid_intro (S2.out.keeps (hkb.trans hk1)); clear hown1 z1 z2)
    | (at_builtin; refine wpList_append_src rfl _ _ 32 rfl w.heap.size 9 i0 (.string ByteArray.empty) 16 Tryz.underlying32 hi0 hz0 hz1 hz2 rfl v1 (0 + (A.map Value.string).length) ([] ++ A.map Value.string) rfl O1.out (.slice a2 n2 c2) rfl (B.map Value.string) T2.out (by simp [Value.oneCell']) (by simp; omega) (by simp; omega) (Nat.le_trans hsb hsz1) ?_; intro v2 w2 hown2 hk2; have O2 := hid_intro hown2; have K2 := hid_intro hk2; have hsz2 := hk2.size; have hkw2 : Keeps [] w w2 := keep_own O1.out (hkb.trans hk1) hk2; have T3 := hid_intro (S3.out.keeps hkw2); clear hown2 hk2)
    | (at_builtin; refine wpList_append_src rfl _ _ 22 rfl w2.heap.size 4 i1 (.bool false) 1 Tryz.underlying22 hi1 hy0 hy1 hy2 rfl (.slice none 0 0) 0 [] rfl (World.ownsRow_nil _ _ _ _) (.slice sa sn sc) rfl (ss.map Value.bool) T3.out (bools_one ss) (by simp; omega) (by simp; omega) (Nat.le_refl _) ?_; intro v3 w3 hown3 hk3; have O3 := hid_intro hown3; have hk3 : Keeps [] w2 w3 := hk3; have hsz3 := hk3.size; have T4 := hid_intro (S4.out.keeps (hkw2.trans hk3)); clear hown3)
    | (at_builtin; refine wpList_append_src rfl _ _ 22 rfl w2.heap.size 4 i1 (.bool false) 1 Tryz.underlying22 hi1 hy0 hy1 hy2 rfl v3 (0 + (ss.map Value.bool).length) ([] ++ ss.map Value.bool) rfl O3.out (.slice ia inn ic) rfl (is.map Value.bool) T4.out (bools_one is) (by simp; omega) (by simp; omega) hsz3 ?_; intro v4 w4 hown4 hk4; have O4 := hid_intro hown4; have K4 := hid_intro hk4; clear hown4 hk4)
    | fail)
  go_ret2
  have hO1 : Wds w2 w.heap.size v2 (A ++ B) := by
    have := O2.out
    unfold Wds
    rw [List.map_append, List.length_append]
    simpa using this
  have hO3 : w4.ownsRow w2.heap.size 4 1 v4 (ss ++ is).length ((ss ++ is).map Value.bool) := by
    have := O4.out
    rw [List.map_append, List.length_append]
    simpa using this
  have hk24 : Keeps [] w2 w4 := keep_own O3.out hk3 K4.out
  exact ⟨v2, v4, rfl, hO1.keeps hk24 (by simp), BS.ofRow hO3, hkw2.trans hk24⟩

set_option maxRecDepth 100000 in
set_option maxHeartbeats 4000000 in
theorem rbad_any {w : World} {a0 : Option Addr} {n0 c0 : Nat} {a1 : Option Addr} {n1 c1 : Nat} {a2 : Option Addr} {n2 c2 : Nat} {ls : List Ln} (hc : CD w a0 n0 c0 a1 n1 c1 a2 n2 c2 ls) {sv iv : Value} {ss is : List Bool} (hs : TS w sv ss) (hi : TS w iv is) (hsl : ss.length = (named 2 ls).length) (hil : is.length = (named 1 ls).length) :
    Calls Tryz.prog 21 #[.agg #[.slice a0 n0 c0, .slice a1 n1 c1, .slice a2 n2 c2], sv, iv] w fun e w' => e = .returned (.bool ((badOf ls).ev (Circ.look (named 2 ls ++ named 1 ls) (ss ++ is)))) ∧ Keeps [] w w' := by
  obtain ⟨⟨g, cap, e, hcap, hg, hfew, hD, hcells⟩, hlat, hinp⟩ := hc
  obtain ⟨rfl, rfl, rfl⟩ : a0 = some ⟨g, 0, none⟩ ∧ n0 = ls.length ∧ c0 = cap := by simpa using e
  have HCD : Hid (CD w (some ⟨g, 0, none⟩) ls.length c0 a1 n1 c1 a2 n2 c2 ls) := ⟨⟨g, c0, rfl, hcap, hg, hfew, hD, hcells⟩, hlat, hinp⟩
  have HC := hid_intro hcells
  have HD := hid_intro hD
  have HS := hid_intro hs
  have HI := hid_intro hi
  have HSl := hid_intro hsl
  have HIl := hid_intro hil
  obtain ⟨sa, sn, sc, rfl⟩ : ∃ a n c, sv = .slice a n c := by obtain ⟨a, cap, e, _⟩ := hs.1; exact ⟨_, _, _, e⟩
  obtain ⟨ia, inn, ic, rfl⟩ : ∃ a n c, iv = .slice a n c := by obtain ⟨a, cap, e, _⟩ := hi.1; exact ⟨_, _, _, e⟩
  obtain ⟨n, hnl⟩ : ∃ n, n = ls.length := ⟨_, rfl⟩
  rw [← hnl] at hcap hfew HCD ⊢
  have HN := hid_intro hnl
  have hn2 : (named 2 ls ++ named 1 ls).length ≤ 2000 := by
    have h1 := named_two ls
    have h3 := HN.out
    rw [List.length_append]
    omega
  have HN2 := hid_intro hn2
  obtain ⟨R, hR⟩ : ∃ R, R = (badOf ls).ev (Circ.look (named 2 ls ++ named 1 ls) (ss ++ is)) := ⟨_, rfl⟩
  rw [← hR]
  have HR := hid_intro hR
  clear hcells hnl hD hs hi hsl hil e hlat hinp hn2 hR
  go_enter Tryz.func21, Tryz.ntmps21
  go_upto_region 1 with fail
  obtain ⟨wb, hwb⟩ : ∃ wb, wb = w.alloc (.cells #[.slice (some ⟨g, 0, none⟩) n c0, .slice a1 n1 c1, .slice a2 n2 c2] 34) := ⟨_, rfl⟩
  have hkb : Keeps [] w wb := by rw [hwb]; exact (Keeps.refl _ _).alloc _
  obtain ⟨z0, z1, z2⟩ := box_cells w (.slice (some ⟨g, 0, none⟩) n c0) (.slice a1 n1 c1) (.slice a2 n2 c2) 34
  rw [← hwb] at z0 z1 z2 ⊢
  have HC1 := hid_intro (rboth_any (HCD.out.keeps hkb) (HS.out.keeps hkb) (HI.out.keeps hkb) HSl.out HIl.out)
  clear hwb
  go_wp2_with fail
  refine Calls.mono HC1.out ?_
  rintro e w1 ⟨u1, u2, rfl, hu1, hu2, hk1⟩
  have HU1 := hid_intro hu1.ws
  have HU2 := hid_intro hu2
  have z0 := hk1.cell z0 (by simp)
  have hkw1 : Keeps [] w w1 := hkb.trans hk1
  clear HC1 hu1 hu2 z1 z2
  go_wp2_with fail
  go_loopw [9] (fun y wr => ∃ j : Nat, y = .int .i64 j ∧ j ≤ n ∧ (∀ k (hk : k < ls.length), k < j → ¬ ls[k].kind = 4) ∧ Keeps [] w1 wr) (fun y _ => n - (intOf y).toNat)
  case atStart => exact ⟨0, rfl, by omega, fun k _ h => by omega, Keeps.refl _ _⟩
  case round =>
    obtain ⟨j, rfl, hj, hb4, hkr⟩ := hrel
    have HB4 := hid_intro hb4
    have y0 := hkr.cell z0 (by simp)
    have hkw : Keeps [] w wr := hkw1.trans hkr
    clear hb4
    by_cases hlt : j < n
    · have hj0 : (0 : Int) ≤ (j : Int) := by omega
      have hj1 : (j : Int) < (n : Int) := by omega
      have hjl : j < ls.length := by rw [← HN.out]; exact hlt
      obtain ⟨ea, en, ec, d1, d2, d3, d4, d5⟩ := HC.out j hjl
      have d1 := hkw.cell d1 (by simp)
      have d4 := hkw.cell d4 (by simp)
      have hd := HD.out _ (List.getElem_mem hjl)
      have hkk := kb_iff (k := ls[j].kind) (j := 4) hd.kind (by omega)
      obtain ⟨t, ht⟩ : ∃ t, t = kb ls[j].kind := ⟨_, rfl⟩
      rw [← ht] at d1 hkk
      have hkk : (t == 98) = (ls[j].kind == 4) := hkk
      clear ht d2 d3
      by_cases h4 : ls[j].kind = 4
      · have q4 : (t == 98) = true := by rw [hkk]; simpa using h4
        have hbo := badOf_at hjl (fun k hk hlt => HB4.out k hk hlt) h4
        have hrr : R = ls[j].ex.ev (Circ.look (named 2 ls ++ named 1 ls) (ss ++ is)) := by rw [HR.out, hbo]
        have HC2 := hid_intro (comes_ev (d5.keeps hkw) hd.few (hd.ex (Or.inr h4)) (HU1.out.keeps hkr) HN2.out (HU2.out.keeps hkr) (by rw [List.length_append, List.length_append, HSl.out, HIl.out]) (names_are HD.out))
        rw [← hrr] at HC2
        clear hkk hbo hrr hd h4 d5
        go_wp2_with fail
        refine Calls.mono HC2.out ?_
        rintro e w2 ⟨rfl, hk2⟩
        have hkf : Keeps [] w w2 := hkw.trans hk2
        clear HC2
        go_wp2_with fail
        go_ret
        exact ⟨rfl, hkf⟩
      · have q4 : (t == 98) = false := by rw [hkk]; simpa using h4
        have HNx : Hid (∀ k (hk : k < ls.length), k < j + 1 → ¬ ls[k].kind = 4) := fun k hk hlt => by
          by_cases e : k = j
          · subst e; exact h4
          · exact HB4.out k hk (by omega)
        clear hkk hd h4 d5
        go_wp2_with fail
        exact ⟨⟨j + 1, by go_num, by omega, HNx.out, hkr⟩, by simp [intOf]; omega⟩
    · have hjn : ¬ (j : Int) < (n : Int) := by omega
      have hfin : R = false := by
        rw [HR.out, badOf_no (fun k hk => HB4.out k hk (by have := HN.out; omega))]
        rfl
      have HF := hid_intro hfin
      clear hfin
      go_wp2_with fail
      go_ret
      exact ⟨ret_bool HF.out.symm, hkw⟩

end Go.Proofs.YtmgjegokkbghlaaGreatDoor

namespace Go.Proofs.YtmgjegokkbghlaaGreatDoor
open Go.RowKit Go.Maps Gram Circ
set_option linter.unusedVariables false

theorem Wds.len' {w : World} {base : Nat} {v : Value} {l : List W} (h : Wds w base v l) : ∃ a c, v = .slice a l.length c := by
  rcases h.2 with ⟨h0, h1⟩ | ⟨g, cap, cur, hv, _⟩
  · exact ⟨none, 0, by rw [h0, h1]⟩
  · exact ⟨_, _, hv⟩
theorem stepB_len (ls : List Ln) (v : W → Bool) : (stepB ls v).length = (named 2 ls).length := by unfold stepB; rw [List.length_map]

set_option maxRecDepth 100000 in
set_option maxHeartbeats 4000000 in
theorem rstep_any {w : World} {a0 : Option Addr} {n0 c0 : Nat} {a1 : Option Addr} {n1 c1 : Nat} {a2 : Option Addr} {n2 c2 : Nat} {ls : List Ln} (hc : CD w a0 n0 c0 a1 n1 c1 a2 n2 c2 ls) (hg : Good ls) {sv iv : Value} {ss is : List Bool} (hs : TS w sv ss) (hi : TS w iv is) (hsl : ss.length = (named 2 ls).length) (hil : is.length = (named 1 ls).length) :
    Calls Tryz.prog 22 #[.agg #[.slice a0 n0 c0, .slice a1 n1 c1, .slice a2 n2 c2], sv, iv] w fun e w' => ∃ u, e = .returned u ∧ TS w' u (stepB ls (Circ.look (named 2 ls ++ named 1 ls) (ss ++ is))) ∧ Keeps [] w w' := by
  obtain ⟨i1, hi1, hy0, hy1, hy2⟩ := info_parts infoB
  have hml : 2000000 < maxLen := by decide
  have HG := hid_intro hg
  have hL4 : (named 2 ls).length ≤ 4 := by rw [named2, List.length_map]; exact hg.nL
  obtain ⟨⟨g, cap, e, hcap, hg0, hfew, hD, hcells⟩, hlat, hinp⟩ := hc
  obtain ⟨rfl, rfl, rfl⟩ : a0 = some ⟨g, 0, none⟩ ∧ n0 = ls.length ∧ c0 = cap := by simpa using e
  have HCD : Hid (CD w (some ⟨g, 0, none⟩) ls.length c0 a1 n1 c1 a2 n2 c2 ls) := ⟨⟨g, c0, rfl, hcap, hg0, hfew, hD, hcells⟩, hlat, hinp⟩
  have HC := hid_intro hcells
  have HD := hid_intro hD
  have hws := hlat.ws
  have hn1 : n1 = (named 2 ls).length := by
    obtain ⟨x1, x2, x3⟩ := hlat.len'
    simp at x3
    exact x3.2.1
  have HW := hid_intro hws
  have HS := hid_intro hs
  have HI := hid_intro hi
  obtain ⟨sa, sn, sc, rfl⟩ : ∃ a n c, sv = .slice a n c := by obtain ⟨a, cap, e, _⟩ := hs.1; exact ⟨_, _, _, e⟩
  obtain ⟨ia, inn, ic, rfl⟩ : ∃ a n c, iv = .slice a n c := by obtain ⟨a, cap, e, _⟩ := hi.1; exact ⟨_, _, _, e⟩
  obtain ⟨n, hnl⟩ : ∃ n, n = ls.length := ⟨_, rfl⟩
  rw [← hnl] at hcap hfew HCD ⊢
  rw [← hn1] at hL4
  have HN := hid_intro hnl
  have HN1 := hid_intro hn1
  have HSl := hid_intro hsl
  have HIl := hid_intro hil
  have hn2 : (named 2 ls ++ named 1 ls).length ≤ 2000 := by
    have h1 := named_two ls
    have h3 := HN.out
    rw [List.length_append]
    omega
  have HN2 := hid_intro hn2
  obtain ⟨vv, hvv⟩ : ∃ vv, vv = Circ.look (named 2 ls ++ named 1 ls) (ss ++ is) := ⟨_, rfl⟩
  rw [← hvv]
  have HV := hid_intro hvv
  clear hcells hnl hD e hlat hinp hws hn1 hsl hil hs hi hg hvv hn2
  go_enter Tryz.func22, Tryz.ntmps22
  go_upto_region 1 with fail
  obtain ⟨wb, hwb⟩ : ∃ wb, wb = w.alloc (.cells #[.slice (some ⟨g, 0, none⟩) n c0, .slice a1 n1 c1, .slice a2 n2 c2] 34) := ⟨_, rfl⟩
  have hkb : Keeps [] w wb := by rw [hwb]; exact (Keeps.refl _ _).alloc _
  obtain ⟨z0, z1, z2⟩ := box_cells w (.slice (some ⟨g, 0, none⟩) n c0) (.slice a1 n1 c1) (.slice a2 n2 c2) 34
  rw [← hwb] at z0 z1 z2 ⊢
  have HC1 := hid_intro (rboth_any (HCD.out.keeps hkb) (HS.out.keeps hkb) (HI.out.keeps hkb) HSl.out HIl.out)
  clear hwb
  go_wp2_with fail
  refine Calls.mono HC1.out ?_
  rintro e w1 ⟨u1, u2, rfl, hu1, hu2, hk1⟩
  have HU1 := hid_intro hu1.ws
  have HU2 := hid_intro hu2
  have z0 := hk1.cell z0 (by simp)
  have z1 := hk1.cell z1 (by simp)
  have hkw1 : Keeps [] w w1 := hkb.trans hk1
  clear HC1 hu1 hu2 z2
  go_wp2_with fail
  go_loopw [9, 10] (fun y9 y10 wr => ∃ k : Nat, y10 = .int .i64 k ∧ k ≤ n1 ∧ wr.ownsRow w1.heap.size 4 1 y9 k (((stepB ls vv).take k).map Value.bool) ∧ Keeps [] w1 wr) (fun _ y10 _ => n1 - (intOf y10).toNat)
  case atStart => exact ⟨0, rfl, by omega, World.ownsRow_nil _ _ _ _, Keeps.refl _ _⟩
  case round =>
    obtain ⟨k, rfl, hk, hown, hkr⟩ := hrel
    have HOwn := hid_intro hown
    have y0 := hkr.cell z0 (by simp)
    have y1 := hkr.cell z1 (by simp)
    clear hown
    by_cases hlt : k < n1
    · have hk0 : (0 : Int) ≤ (k : Int) := by omega
      have hk1i : (k : Int) < (n1 : Int) := by omega
      have hkl : k < (named 2 ls).length := by rw [← HN1.out]; exact hlt
      obtain ⟨nm, hnm⟩ : ∃ nm, nm = (named 2 ls)[k] := ⟨_, rfl⟩
      have hmem : nm ∈ named 2 ls := by rw [hnm]; exact List.getElem_mem hkl
      have HNm := hid_intro hnm
      have HMem := hid_intro hmem
      clear hnm hmem
      obtain ⟨b, of, hab, hb, hcl⟩ := HW.out.word hkl
      subst hab
      rw [← HNm.out] at hcl
      have hcl := hkw1.cell hcl (by simp)
      go_wp2_with fail
      go_loopw [9, 11] (fun y9 y11 wq => ∃ (i : Nat) (xs : List Bool), y11 = .int .i64 i ∧ i ≤ n ∧ xs = ((ls.take i).filter (isNext nm)).map (fun x => x.ex.ev vv) ∧ wq.ownsRow w1.heap.size 4 1 y9 (k + xs.length) (((stepB ls vv).take k ++ xs).map Value.bool) ∧ Keeps [] w1 wq) (fun _ y11 _ => n - (intOf y11).toNat)
      case atStart =>
        refine ⟨0, [], rfl, by omega, by simp, ?_, hkr⟩
        have := HOwn.out
        rw [List.append_nil]
        exact this
      case round =>
        obtain ⟨i, xs, rfl, hi, hxs, hown, hkq⟩ := hrel
        have HXs := hid_intro hxs
        have hxl : xs.length ≤ 1 := by
          rw [hxs, List.length_map]
          exact next_few HG.out HMem.out i
        have v0 := hkq.cell z0 (by simp)
        have v1 := hkq.cell z1 (by simp)
        have vl := hkq.cell hcl (by simp)
        have hkw : Keeps [] w wr := hkw1.trans hkq
        by_cases hil : i < n
        · have hi0 : (0 : Int) ≤ (i : Int) := by omega
          have hi1' : (i : Int) < (n : Int) := by omega
          have hi2 : i < ls.length := by rw [← HN.out]; exact hil
          obtain ⟨ea, en, ec, d1, d2, d3, d4, d5⟩ := HC.out i hi2
          have d1 := hkw.cell d1 (by simp)
          have d2 := hkw.cell d2 (by simp)
          have d4 := hkw.cell d4 (by simp)
          have hd := HD.out _ (List.getElem_mem hi2)
          have hnx := next_take (n := nm) hi2 vv
          rw [← HXs.out] at hnx
          have hkk := kb_iff (k := ls[i].kind) (j := 3) hd.kind (by omega)
          have qs := beq_bl ls[i].name nm
          obtain ⟨t, ht⟩ : ∃ t, t = kb ls[i].kind := ⟨_, rfl⟩
          obtain ⟨xn, hxn⟩ : ∃ t, t = ls[i].name := ⟨_, rfl⟩
          have hisn : isNext nm ls[i] = (ls[i].kind == 3 && decide (ls[i].name = nm)) := rfl
          rw [← hxn] at d2 qs hisn
          rw [← ht] at d1 hkk
          have hkk : (t == 110) = (ls[i].kind == 3) := hkk
          rw [← hkk] at hisn
          rw [hisn] at hnx
          clear hisn d3
          cases q3 : (t == 110)
          · rw [q3] at hnx
            have HNx := hid_intro (hnx.trans (List.append_nil _))
            have HOw := hid_intro hown
            clear hnx hkk hd hxs hown ht hxn d5
            go_wp2_with fail
            go_quiet (fail)
            go_wp2_with fail
            exact ⟨⟨i + 1, xs, by go_num, by omega, HNx.out.symm, row_keeps HOw.out ((Keeps.refl [] _).drewN _) (by simp), hkq.trans ((Keeps.refl _ _).drewN _)⟩, by simp [intOf]; omega⟩
          · cases qn : decide (xn = nm)
            · rw [q3, qn] at hnx
              rw [qn] at qs
              have HNx := hid_intro (hnx.trans (List.append_nil _))
              have HOw := hid_intro hown
              clear hnx hkk hd hxs hown ht hxn d5
              go_wp2_with fail
              go_quiet (fail)
              go_wp2_with fail
              exact ⟨⟨i + 1, xs, by go_num, by omega, HNx.out.symm, row_keeps HOw.out ((Keeps.refl [] _).drewN _) (by simp), hkq.trans ((Keeps.refl _ _).drewN _)⟩, by simp [intOf]; omega⟩
            · have h3 : ls[i].kind = 3 := by rw [q3] at hkk; simpa using hkk.symm
              rw [q3, qn] at hnx
              rw [qn] at qs
              have hnx : _ = xs ++ [ls[i].ex.ev vv] := hnx
              have hx0 : xs.length + 1 ≤ 1 := by
                have h5 := congrArg List.length hnx
                rw [List.length_map, List.length_append] at h5
                have h6 := next_few HG.out HMem.out (i + 1)
                simp at h5
                omega
              have HNx := hid_intro hnx
              have HOw := hid_intro hown
              have hgx := hd.ex (Or.inl h3)
              have HGx := hid_intro hgx
              have HFw := hid_intro hd.few
              have HD5 := hid_intro d5
              obtain ⟨X, hX⟩ : ∃ X, X = ls[i].ex.ev vv := ⟨_, rfl⟩
              have HCm : Hid (∀ V : World, Keeps [] w1 V → Keeps [] w V → Calls Tryz.prog 47 #[.slice ea en ec, .int .i64 0, .int .i64 8, u1, u2] V fun e w' => e = .returned (.tuple #[.bool X, .bool true]) ∧ Keeps [] V w') := fun V k1 k2 => by
                have := comes_ev (HD5.out.keeps k2) HFw.out HGx.out (HU1.out.keeps k1) HN2.out (HU2.out.keeps k1) (by rw [List.length_append, List.length_append, HSl.out, HIl.out]) (names_are HD.out)
                rw [← HV.out, ← hX] at this
                exact this
              rw [← hX] at HNx
              clear hnx hkk hd hxs hown ht hxn d5 h3 hgx hX HD5 HFw HGx
              go_wp2_with fail
              go_quiet (fail)
              go_wp2_with fail
              refine Calls.mono (HCm.out _ (hkq.trans ((Keeps.refl [] wr).drewN _)) (hkw.trans ((Keeps.refl [] wr).drewN _))) ?_
              rintro e w2 ⟨rfl, hk2⟩
              have hk12 : Keeps [] w1 w2 := (hkq.trans ((Keeps.refl [] wr).drewN _)).trans hk2
              have HO2 := hid_intro (row_keeps (row_keeps HOw.out ((Keeps.refl [] wr).drewN _) (by simp)) hk2 (by simp))
              have hsz2 := hk12.size
              clear HCm HOw
              go_wp2_with (first
                | (at_builtin; refine wpList_append_own_at _ rfl _ _ 22 rfl w1.heap.size 4 i1 (.bool false) 1 1 Tryz.underlying22 hi1 hy0 hy1 hy2 rfl (by decide) _ (k + xs.length) (((stepB ls vv).take k ++ xs).map Value.bool) rfl (World.ownsRow.alloc HO2.out _) ⟨w2.heap.size, 0, none⟩ 1 1 [_] rfl rfl (cells_new _ _ _) (by simp [Value.oneCell']) (by omega) (by omega) (by simp; omega) ?_; intro v' w3 hown' hgrow hnil hloc; have HOW := hid_intro hown'; have HGR := hid_intro hgrow; clear hown' hgrow hloc hnil)
                | fail)
              have hk3 := push_keeps' HO2.out HGR.out hk12
              refine ⟨⟨i + 1, xs ++ [X], by go_num, by omega, HNx.out.symm, ?_, hk3⟩, by simp [intOf]; omega⟩
              have := HOW.out
              rw [← List.append_assoc, List.map_append, List.length_append]
              exact this
        · have hin : ¬ (i : Int) < (n : Int) := by omega
          have hone : xs = [(nextOf ls nm).ev vv] := by
            rw [HXs.out, List.take_of_length_le (by rw [← HN.out]; omega)]
            exact next_ev HG.out HMem.out vv
          have hst : (stepB ls vv).take (k + 1) = (stepB ls vv).take k ++ xs := by
            have hkb2 : k < (stepB ls vv).length := by rw [stepB_len]; exact hkl
            rw [List.take_succ_eq_append_getElem hkb2, hone, HNm.out]
            simp [stepB]
          have hl1 : xs.length = 1 := by rw [hone]; rfl
          rw [← hst, hl1] at hown
          have HOw := hid_intro hown
          clear hown hxs hone hst hl1
          go_wp2_with fail
          exact ⟨⟨k + 1, by go_num, by omega, HOw.out, hkq⟩, by simp [intOf]; omega⟩
    · have hkn : ¬ (k : Int) < (n1 : Int) := by omega
      have hrow := HOwn.out
      have e : k = (stepB ls vv).length := by rw [stepB_len, ← HN1.out]; omega
      rw [List.take_of_length_le (by omega), e] at hrow
      have hfin := TS.ofRow hrow
      have HF := hid_intro hfin
      have hkf : Keeps [] w wr := hkw1.trans hkr
      clear hfin hrow e
      go_wp2_with fail
      go_ret
      exact ⟨_, rfl, HF.out, hkf⟩

end Go.Proofs.YtmgjegokkbghlaaGreatDoor

namespace Go.Proofs.YtmgjegokkbghlaaGreatDoor
open Go.RowKit Go.Maps Gram Circ
set_option linter.unusedVariables false

theorem at_cases {x : Ln} (h : LnD x) (hk : x.kind = 2) : (x.first = zer ∧ atB x.first = 48) ∨ (x.first = one ∧ atB x.first = 49) ∨ (x.first = que ∧ atB x.first = 63) := by
  rcases h.first hk with e | e | e
  · exact Or.inl ⟨e, by rw [e]; rfl⟩
  · exact Or.inr (Or.inl ⟨e, by rw [e]; decide⟩)
  · exact Or.inr (Or.inr ⟨e, by rw [e]; decide⟩)

set_option maxRecDepth 100000 in
set_option maxHeartbeats 4000000 in
theorem rfirst_any {w : World} {a0 : Option Addr} {n0 c0 : Nat} {a1 : Option Addr} {n1 c1 : Nat} {a2 : Option Addr} {n2 c2 : Nat} {ls : List Ln} (hc : CD w a0 n0 c0 a1 n1 c1 a2 n2 c2 ls) {v : Value} {ss : List Bool} (hs : BS w v ss) (hl : ss.length = (latches ls).length) :
    Calls Tryz.prog 20 #[.agg #[.slice a0 n0 c0, .slice a1 n1 c1, .slice a2 n2 c2], v] w fun e w' => e = .returned (.bool (firstB ls ss)) ∧ Keeps [] w w' := by
  obtain ⟨⟨g, cap, e, hcap, hg, hfew, hD, hcells⟩, _, _⟩ := hc
  obtain ⟨rfl, rfl, rfl⟩ : a0 = some ⟨g, 0, none⟩ ∧ n0 = ls.length ∧ c0 = cap := by simpa using e
  obtain ⟨ba, bcap, rfl, hbs⟩ := hs
  have HBs := hid_intro hbs
  have HC := hid_intro hcells
  have HD := hid_intro hD
  have HL := hid_intro hl
  obtain ⟨n, hnl⟩ : ∃ n, n = ls.length := ⟨_, rfl⟩
  obtain ⟨m, hm⟩ : ∃ m, m = ss.length := ⟨_, rfl⟩
  rw [← hnl] at hcap hfew ⊢
  rw [← hm]
  have HN := hid_intro hnl
  have HM := hid_intro hm
  have hmb : m ≤ 1001 := by
    have h1 := HL.out
    have h2 : (latches ls).length ≤ ls.length := List.length_filter_le _ _
    omega
  clear hcells hnl hD hbs hl e hm
  go_enter Tryz.func20, Tryz.ntmps20
  go_upto_region 1 with fail
  obtain ⟨wb, hwb⟩ : ∃ wb, wb = w.alloc (.cells #[.slice (some ⟨g, 0, none⟩) n c0, .slice a1 n1 c1, .slice a2 n2 c2] 34) := ⟨_, rfl⟩
  have hkb : Keeps [] w wb := by rw [hwb]; exact (Keeps.refl _ _).alloc _
  obtain ⟨z0, z1, z2⟩ := box_cells w (.slice (some ⟨g, 0, none⟩) n c0) (.slice a1 n1 c1) (.slice a2 n2 c2) 34
  rw [← hwb] at z0 z1 z2 ⊢
  clear hwb z1 z2
  go_wp2_with fail
  go_loopw [5, 6] (fun y5 y6 wr => ∃ j k : Nat, y6 = .int .i64 j ∧ y5 = .int .i64 k ∧ j ≤ n ∧ k ≤ j ∧ k = (latches (ls.take j)).length ∧ firstUp ls ss k ∧ Keeps [] wb wr) (fun _ y6 _ => n - (intOf y6).toNat)
  case atStart => exact ⟨0, 0, rfl, rfl, by omega, by omega, by simp [latches], fun j hj => by omega, Keeps.refl _ _⟩
  case round =>
    obtain ⟨j, k, rfl, rfl, hj, hkj, hkk, hup, hkr⟩ := hrel
    have zc := hkr.cell z0 (by simp)
    have hk : Keeps [] w wr := hkb.trans hkr
    have HK := hid_intro hkk
    have HU := hid_intro hup
    clear hkk hup
    by_cases hlt : j < n
    · have hj0 : (0 : Int) ≤ (j : Int) := by omega
      have hj1 : (j : Int) < (n : Int) := by omega
      have hjl : j < ls.length := by rw [← HN.out]; exact hlt
      obtain ⟨sa, sn, sc, k1, k2, k3, _, _⟩ := HC.out j hjl
      have k1 := hk.cell k1 (by simp)
      have k3 := hk.cell k3 (by simp)
      have hd := HD.out _ (List.getElem_mem hjl)
      have hlt2 := latches_take hjl
      by_cases h2 : ls[j].kind = 2
      · have hla : ∃ h : k < (latches ls).length, (latches ls)[k] = ls[j] := by rw [HK.out]; exact latches_at hjl h2
        obtain ⟨hkl, hat⟩ := hla
        have hks : k < ss.length := by rw [HL.out]; exact hkl
        obtain ⟨b, o, hab, hb, hcb⟩ := HBs.out k hks
        have hcb := hk.cell hcb (by simp)
        subst hab
        have hcase := at_cases hd h2
        have hget : (latches ls).getD k dfl = ls[j] := by rw [List.getD_eq_getElem?_getD, List.getElem?_eq_getElem hkl, hat]; rfl
        have hgs : ss.getD k false = ss[k] := by rw [List.getD_eq_getElem?_getD, List.getElem?_eq_getElem hks]; rfl
        have hno : mayFirst ls[j].first ss[k] = false → firstB ls ss = false := fun h => firstUp.not hks (by rw [hget, hgs]; exact h)
        have hyes : mayFirst ls[j].first ss[k] = true → firstUp ls ss (k + 1) := fun h => HU.out.succ (by rw [hget, hgs]; exact h)
        have hkn : k + 1 = (latches (ls.take (j + 1))).length := by rw [hlt2, if_pos (by simp [h2]), List.length_append, HK.out]; rfl
        have hk0 : (0 : Int) ≤ (k : Int) := by omega
        have hk1 : (k : Int) < (m : Int) := by rw [HM.out]; omega
        rw [h2] at k1
        have k1 : wr.cell? ⟨g, j * 4, none⟩ = some (.int .u8 108) := k1
        obtain ⟨st, hst⟩ : ∃ st, st = ss[k] := ⟨_, rfl⟩
        rw [← hst] at hcb hno hyes
        have HNo := hid_intro hno
        have HYes := hid_intro hyes
        have HKn := hid_intro hkn
        clear hget hgs hlt2 hat hkl hst hno hyes hkn
        rcases hcase with ⟨e1, e2⟩ | ⟨e1, e2⟩ | ⟨e1, e2⟩
        all_goals
          rw [e2] at k3
          rw [e1] at HNo HYes
          clear e1 e2
          cases st
        all_goals
          go_wp2_with fail
          first
            | exact ⟨⟨j + 1, k + 1, by go_num, by go_num, by omega, by omega, HKn.out, HYes.out (by decide), hkr⟩, by simp [intOf]; omega⟩
            | (go_ret; exact ⟨ret_bool (HNo.out (by decide)).symm, hk⟩)
      · have ht : (kb ls[j].kind == 108) = false := by
          have := kb_iff (k := ls[j].kind) (j := 2) hd.kind (by omega)
          rw [show (108 : Int) = kb 2 from rfl, this]
          simpa using h2
        have hkn : k = (latches (ls.take (j + 1))).length := by rw [hlt2, if_neg (by simpa using h2), List.append_nil, HK.out]
        have HKn := hid_intro hkn
        obtain ⟨t, hte⟩ : ∃ t, t = kb ls[j].kind := ⟨_, rfl⟩
        rw [← hte] at k1 ht
        clear hkn hlt2 hte h2
        go_wp2_with fail
        exact ⟨⟨j + 1, k, by go_num, rfl, by omega, by omega, HKn.out, HU.out, hkr⟩, by simp [intOf]; omega⟩
    · have hjn : ¬ (j : Int) < (n : Int) := by omega
      have hfin : firstB ls ss = true := by
        refine firstUp.all ?_
        have h1 := HU.out
        rw [HK.out, List.take_of_length_le (by rw [← HN.out]; omega), ← HL.out] at h1
        exact h1
      have HF := hid_intro hfin
      clear hfin
      go_wp2_with fail
      go_ret
      exact ⟨ret_bool HF.out.symm, hk⟩

end Go.Proofs.YtmgjegokkbghlaaGreatDoor

namespace Go.Proofs.YtmgjegokkbghlaaGreatDoor
open Go.RowKit Go.Maps Gram Circ Runs
set_option linter.unusedVariables false

/-- a list of numbers that may be written -/
def FarAt (w : World) (F S : Nat) (far : Nat → Nat) : Prop := ∀ t : Nat, t < S → w.cell? ⟨F, t, none⟩ = some (.int .i64 (far t : Int)) ∧ w.frozen? ⟨F, t, none⟩ = false
theorem FarAt.keeps {w w' : World} {F S : Nat} {far : Nat → Nat} {X : List Nat} (h : FarAt w F S far) (hk : Keeps X w w') (hF : F < w.heap.size) (hX : F ∉ X) : FarAt w' F S far :=
  fun i hi => ⟨hk.cell (h i hi).1 hX, (hk.frozen (p := ⟨F, i, none⟩) hF hX).trans (h i hi).2⟩
theorem FarAt.made (w : World) (S : Nat) (e : TypeId) : FarAt (w.alloc (.cells (fillD (.int .i64 0) S) e)) w.heap.size S (fun _ => 0) := by
  intro i hi
  refine ⟨?_, by simp⟩
  rw [World.cell?_alloc_at _ _ _ _ rfl]
  exact fillD_get _ hi
theorem FarAt.set {w : World} {F S : Nat} {far : Nat → Nat} (h : FarAt w F S far) (k x : Nat) : FarAt (w.setCell ⟨F, k, none⟩ (.int .i64 (x : Int))) F S (fun i => if i = k then x else far i) := by
  intro i hi
  refine ⟨?_, by rw [World.frozen?_setCell]; exact (h i hi).2⟩
  by_cases e : i = k
  · subst e
    rw [cell_set (h i hi).1]
    simp
  · rw [cell_off (by first | (simp; done) | (simp; omega)), (h i hi).1]
    simp [e]
theorem FarAt.congr {w : World} {F S : Nat} {f g : Nat → Nat} (h : FarAt w F S f) (e : ∀ i, i < S → f i = g i) : FarAt w F S g := fun i hi => by rw [← e i hi]; exact h i hi
theorem BS.marks {w : World} {B L : Nat} {f : Nat → Bool} {bs : List Bool} (h : MarksD w B L f) (hB : B < w.heap.size) (hl : bs.length = L) (hb : ∀ j (hj : j < bs.length), bs[j] = f j) : BS w (.slice (some ⟨B, 0, none⟩) L L) bs := by
  subst hl
  refine ⟨_, _, rfl, fun j hj => ⟨B, 0, rfl, hB, ?_⟩⟩
  rw [Nat.zero_add, hb j hj]
  exact (h j hj).1
theorem digs_num {l : List Bool} (hl : l.length < 5) : digs l.length (numOf l) = l := by
  refine List.ext_getElem (by simp [digs]) (fun j h1 h2 => ?_)
  simp only [digs, List.getElem_map, List.getElem_range]
  exact dig_num l hl j h2
theorem num_digs : ∀ n : Nat, n < 5 → ∀ x : Nat, x < 16 → x < 2 ^ n → numOf (digs n x) = x := by decide

end Go.Proofs.YtmgjegokkbghlaaGreatDoor

namespace Go.Proofs.YtmgjegokkbghlaaGreatDoor
open Go.RowKit Go.Maps Gram Circ Runs
set_option linter.unusedVariables false

def TruthIs (ls : List Ln) (e : Ending) : Prop := ((∀ j, ¬ BadAt (sysOf ls) j) ∧ e = .returned (.tuple #[.bool true, .int .i64 (Runs.howMany (sysOf ls) : Int), .int .i64 0])) ∨ ∃ k, BadAt (sysOf ls) k ∧ (∀ j, j < k → ¬ BadAt (sysOf ls) j) ∧ k ≤ 16 ∧ e = .returned (.tuple #[.bool false, .int .i64 0, .int .i64 (k : Int)])
theorem bad_sys (ls : List Ln) (s i : Nat) : (badOf ls).ev (Circ.look (named 2 ls ++ named 1 ls) (digs (named 2 ls).length s ++ digs (named 1 ls).length i)) = (sysOf ls).bad s i := rfl
theorem step_sys (ls : List Ln) (s i : Nat) : numOf (stepB ls (Circ.look (named 2 ls ++ named 1 ls) (digs (named 2 ls).length s ++ digs (named 1 ls).length i))) = (sysOf ls).step s i := rfl
/-- the pairs that have been looked at are good -/
def Fine (M : Runs.Sys) (k : Nat) (P : Nat → Nat → Prop) : Prop := ∀ s i, P s i → lev M (k - 1) s → i < M.I → M.bad s i = false
theorem fine_level {M : Runs.Sys} {k : Nat} {P : Nat → Nat → Prop} (h : Fine M k P) (hP : ∀ s i, lev M (k - 1) s → i < M.I → P s i) : ¬ BadAt M (k - 1) := by
  rintro ⟨s, i, hl, hi, hb⟩
  rw [h s i (hP s i hl hi) hl hi] at hb
  cases hb
noncomputable def cntUp (M : Runs.Sys) (far : Nat → Nat) (s : Nat) : Nat := (List.range s).countP fun t => decide (0 < far t)
theorem cntUp_succ (M : Runs.Sys) (far : Nat → Nat) (s : Nat) : cntUp M far (s + 1) = cntUp M far s + if 0 < far s then 1 else 0 := by
  unfold cntUp
  rw [List.range_succ, List.countP_append, List.countP_singleton]
  simp
theorem cntUp_all {M : Runs.Sys} {far : Nat → Nat} (h : FarIs M (M.S + 1) (fun _ _ => False) far) : cntUp M far M.S = Runs.howMany M := by
  classical
  unfold cntUp Runs.howMany
  refine List.countP_congr (fun t ht => ?_)
  simp only [decide_eq_true_eq]
  exact h.reached (List.mem_range.1 ht)
theorem cntUp_le (M : Runs.Sys) (far : Nat → Nat) (s : Nat) : cntUp M far s ≤ s := by
  unfold cntUp
  refine Nat.le_trans List.countP_le_length ?_
  simp

theorem if_lt_succ {t s : Nat} {p : Bool} (e : ¬ t = s) : (if t < s + 1 ∧ p = true then 1 else 0) = (if t < s ∧ p = true then 1 else 0 : Nat) := by
  have h : (t < s + 1 ∧ p = true) ↔ (t < s ∧ p = true) := by constructor <;> rintro ⟨h1, h2⟩ <;> exact ⟨by omega, h2⟩
  simp only [h]
theorem truth_yes {ls : List Ln} {q : Nat} (h : ∀ j, ¬ BadAt (sysOf ls) j) (hq : q = Runs.howMany (sysOf ls)) : TruthIs ls (.returned (.tuple #[.bool true, .int .i64 (q : Int), .int .i64 0])) := by subst hq; exact Or.inl ⟨h, rfl⟩
theorem truth_no {ls : List Ln} {k : Nat} (hk : 1 ≤ k) (hb : BadAt (sysOf ls) (k - 1)) (h : ∀ j, j < k - 1 → ¬ BadAt (sysOf ls) j) (h16 : k ≤ 16) : TruthIs ls (.returned (.tuple #[.bool false, .int .i64 0, .int .i64 ((k : Int) - 1)])) := Or.inr ⟨k - 1, hb, h, by omega, by rw [show ((k - 1 : Nat) : Int) = (k : Int) - 1 by omega]⟩
theorem infoI3 : (Tryz.prog.info? 3).map (fun i => (i.zero, i.size, i.bytes)) = some (some (.int .i64 0), 1, 8) := by kernel_rfl
theorem TS.len {w : World} {v : Value} {bs : List Bool} (h : TS w v bs) : ∃ a n c, v = .slice a n c := by obtain ⟨a, cap, e, _⟩ := h.1; exact ⟨_, _, _, e⟩
theorem rvals {w : World} {x n : Nat} (hx : x < 16) (hn : n ≤ 4) : Calls Tryz.prog 50 #[.int .i64 (x : Int), .int .i64 (n : Int)] w fun e w' => ∃ a m c, e = .returned (.slice a m c) ∧ TS w' (.slice a m c) (digs n x) ∧ Keeps [] w w' := by
  refine (rvalues_any hx hn).mono ?_
  rintro e w' ⟨u, rfl, hu, hk⟩
  have hl := digs_len n x
  have ht : TS w' u (digs n x) := TS.ofRow (by rw [hl]; exact hu)
  obtain ⟨a, m, c, rfl⟩ := ht.len
  exact ⟨a, m, c, rfl, ht, hk⟩

set_option maxRecDepth 100000 in
set_option maxHeartbeats 8000000 in
theorem rtruth_any {w : World} {a0 : Option Addr} {n0 c0 : Nat} {a1 : Option Addr} {n1 c1 : Nat} {a2 : Option Addr} {n2 c2 : Nat} {ls : List Ln} (hc : CD w a0 n0 c0 a1 n1 c1 a2 n2 c2 ls) (hg : Good ls) :
    Calls Tryz.prog 19 #[.agg #[.slice a0 n0 c0, .slice a1 n1 c1, .slice a2 n2 c2]] w fun e w' => TruthIs ls e ∧ Keeps [] w w' := by
  obtain ⟨i0, hi0, hz0, hz1, hz2⟩ := info_parts infoI3
  have HG := hid_intro hg
  have HCD := hid_intro hc
  have hn1 : n1 = (named 2 ls).length := by
    obtain ⟨x1, x2, x3⟩ := hc.2.1.len'
    simp at x3
    exact x3.2.1
  have hn2 : n2 = (named 1 ls).length := by
    obtain ⟨x1, x2, x3⟩ := hc.2.2.len'
    simp at x3
    exact x3.2.1
  have hL4 : n1 ≤ 4 := by rw [hn1, named2, List.length_map]; exact hg.nL
  have hI3 : n2 ≤ 3 := by rw [hn2]; exact hg.nI
  have hI4 : n2 ≤ 4 := by omega
  obtain ⟨S, hS⟩ : ∃ S : Nat, S = 2 ^ n1 := ⟨_, rfl⟩
  obtain ⟨NI, hNI⟩ : ∃ NI : Nat, NI = 2 ^ n2 := ⟨_, rfl⟩
  have hS16 : S ≤ 16 := by rw [hS]; exact two_pow_le (n := 4) hL4
  have hmk := makeD_run (t := 76) Tryz.underlying76 hi0 hz0 hz1 hz2 (by decide) rfl (L := S) (by omega)
  have hS0 : (0 : Int) ≤ (S : Int) := by omega
  have hS1 : 1 ≤ S := by rw [hS]; exact Nat.one_le_two_pow
  have hNI8 : NI ≤ 8 := by rw [hNI]; exact two_pow_le (n := 3) hI3
  have hsh1 : wrap64 (2 ^ n1) = (S : Int) := by rw [wrap_pow n1 (by omega), hS]
  have hsh2 : wrap64 (2 ^ n2) = (NI : Int) := by rw [wrap_pow n2 (by omega), hNI]
  have hMS : (sysOf ls).S = S := by rw [hS, hn1]; rfl
  have hMI : (sysOf ls).I = NI := by rw [hNI, hn2]; rfl
  have hfst : ∀ s, firstB ls (digs n1 s) = (sysOf ls).first s := fun s => by rw [hn1, first_sys]
  have hbadE : ∀ s i, (badOf ls).ev (Circ.look (named 2 ls ++ named 1 ls) (digs n1 s ++ digs n2 i)) = (sysOf ls).bad s i := fun s i => by rw [hn1, hn2]; rfl
  have hstpE : ∀ s i, numOf (stepB ls (Circ.look (named 2 ls ++ named 1 ls) (digs n1 s ++ digs n2 i))) = (sysOf ls).step s i := fun s i => by rw [hn1, hn2]; rfl
  have hstepS : ∀ s i, (sysOf ls).step s i < S := fun s i => by
    have := step_len ls s i
    rw [hS, hn1, named2, List.length_map]
    exact this
  have hsl : ∀ s, (digs n1 s).length = (named 2 ls).length := fun s => by rw [digs_len]; exact hn1
  have hil : ∀ i, (digs n2 i).length = (named 1 ls).length := fun i => by rw [digs_len]; exact hn2
  have hll : ∀ s, (digs n1 s).length = (latches ls).length := fun s => by rw [digs_len, hn1, named2, List.length_map]
  have hbl : ∀ v, (stepB ls v).length ≤ 4 := fun v => by rw [stepB_len, ← hn1]; exact hL4
  have HMS := hid_intro hMS
  have HMI := hid_intro hMI
  have HFst := hid_intro hfst
  have HBadE := hid_intro hbadE
  have HStpE := hid_intro hstpE
  have HStepS := hid_intro hstepS
  have HSl := hid_intro hsl
  have HIl := hid_intro hil
  have HLl := hid_intro hll
  have HBl := hid_intro hbl
  obtain ⟨M, hM⟩ : ∃ M, M = sysOf ls := ⟨_, rfl⟩
  rw [← hM] at HMS HMI HFst HBadE HStpE HStepS
  have HM := hid_intro hM
  clear hS hNI hc hg hn1 hn2 hMS hMI hfst hbadE hstpE hstepS hsl hil hll hbl hM
  go_enter Tryz.func19, Tryz.ntmps19
  go_upto_region 1 with fail
  obtain ⟨wb, hwb⟩ : ∃ wb, wb = w.alloc (.cells #[.slice a0 n0 c0, .slice a1 n1 c1, .slice a2 n2 c2] 34) := ⟨_, rfl⟩
  have hkb : Keeps [] w wb := by rw [hwb]; exact (Keeps.refl _ _).alloc _
  obtain ⟨z0, z1, z2⟩ := box_cells w (.slice a0 n0 c0) (.slice a1 n1 c1) (.slice a2 n2 c2) 34
  rw [← hwb] at z0 z1 z2 ⊢
  have hsb : w.heap.size < wb.heap.size := by rw [hwb]; simp
  clear hwb
  go_upto_region 4 with fail
  rw [hsh1, hsh2]
  obtain ⟨F, hF⟩ : ∃ F, F = wb.heap.size := ⟨_, rfl⟩
  obtain ⟨wf, hwf⟩ : ∃ wf, wf = wb.alloc (.cells (fillD (.int .i64 0) S) 3) := ⟨_, rfl⟩
  have hkf : Keeps [] wb wf := by rw [hwf]; exact (Keeps.refl _ _).alloc _
  have hfar := FarAt.made wb S 3
  have hFl : F < wf.heap.size := by rw [hwf, hF]; simp
  rw [← hwf, ← hF] at hfar ⊢
  have hCF : w.heap.size < F := by omega
  have z0 := hkf.cell z0 (by simp)
  have z1 := hkf.cell z1 (by simp)
  have z2 := hkf.cell z2 (by simp)
  have HKf := hid_intro (hkb.trans hkf)
  have HFar := hid_intro hfar
  clear hwf hF hmk hkf hkb hfar hsb hsh1 hsh2
  go_wp2_with fail
  go_loopw [8] (fun y wr => ∃ s : Nat, y = .int .i64 s ∧ s ≤ S ∧ FarAt wr F S (fun t => if t < s ∧ M.first t = true then 1 else 0) ∧ Keeps [F] wf wr) (fun y _ => S - (intOf y).toNat)
  case atStart => exact ⟨0, rfl, by omega, HFar.out.congr (fun i hi => by simp), Keeps.refl _ _⟩
  case round =>
    obtain ⟨s, rfl, hs, hfa, hk⟩ := hrel
    have HFa := hid_intro hfa
    have y0 := hk.cell z0 (by simp; omega)
    have y1 := hk.cell z1 (by simp; omega)
    have y2 := hk.cell z2 (by simp; omega)
    have HKr : Hid (Keeps [] w wr) := keeps_far HKf.out hk (by simp; omega)
    have HCr := hid_intro (HCD.out.keeps HKr.out)
    by_cases hlt : s < S
    · have hs0 : (0 : Int) ≤ (s : Int) := by omega
      have hs1 : (s : Int) < (S : Int) := by omega
      have hs16 : s < 16 := by omega
      have f0 := (hfa s hlt).1
      have f1 := (hfa s hlt).2
      have hFr : F < wr.heap.size := Nat.lt_of_lt_of_le hFl hk.size
      have s0 : wr.drew.cell? ⟨w.heap.size, 0, none⟩ = some (.slice a0 n0 c0) ∧ wr.drew.cell? ⟨w.heap.size, 1, none⟩ = some (.slice a1 n1 c1) ∧ wr.drew.cell? ⟨w.heap.size, 2, none⟩ = some (.slice a2 n2 c2) := ⟨((Keeps.refl [] wr).drew).cell y0 (by simp), ((Keeps.refl [] wr).drew).cell y1 (by simp), ((Keeps.refl [] wr).drew).cell y2 (by simp)⟩
      obtain ⟨fs, hfs⟩ : ∃ b, b = M.first s := ⟨_, rfl⟩
      have HFs := hid_intro hfs
      clear hfa hfs
      go_wp2_with fail
      go_region_held3 (fun w' => w'.cell? ⟨w.heap.size, 0, none⟩ = some (.slice a0 n0 c0) ∧ w'.cell? ⟨w.heap.size, 1, none⟩ = some (.slice a1 n1 c1) ∧ w'.cell? ⟨w.heap.size, 2, none⟩ = some (.slice a2 n2 c2))
        (first | exact s0 | exact s1 | exact s2 | assumption)
        (first
          | (go_at_call 50; refine (rvals hs16 hL4).mono ?_; rintro e w2 ⟨ua, um, uc, rfl, hu, hk2⟩; have HU := hid_intro hu; have s1 := And.intro (hk2.cell s0.1 (by simp)) (And.intro (hk2.cell s0.2.1 (by simp)) (hk2.cell s0.2.2 (by simp))); clear hu)
          | (go_at_call 20; refine (rfirst_any ((HCr.out.keeps (Keeps.refl [] wr).drew).keeps hk2) HU.out.1 (HLl.out s)).mono ?_; rintro e w3 ⟨rfl, hk3⟩; rw [HFst.out, ← HFs.out]; have s2 := And.intro (hk3.cell s1.1 (by simp)) (And.intro (hk3.cell s1.2.1 (by simp)) (hk3.cell s1.2.2 (by simp))))
          | fail)
      have hk13 : Keeps [] wr w3 := (((Keeps.refl [] wr).drew).trans hk2).trans hk3
      have g0 := hk13.cell f0 (by simp)
      have g1 := (hk13.frozen (p := ⟨F, s, none⟩) hFr (by simp)).trans f1
      have HFb := hid_intro (HFa.out.keeps hk13 hFr (by simp))
      have HKw := hid_intro (hk.trans (hk13.mono (S' := [F]) (by simp)))
      clear s0 s1 s2 HU
      cases fs
      · have HFn := hid_intro (HFb.out.congr (g := fun t => if t < s + 1 ∧ M.first t = true then 1 else 0) (fun t ht => by
          by_cases e : t = s
          · subst e; rw [if_neg (by omega), if_neg (by rw [← HFs.out]; simp)]
          · exact (if_lt_succ e).symm))
        go_wp2_with fail
        exact ⟨⟨s + 1, by go_num, by omega, HFn.out, HKw.out⟩, by simp [intOf]; omega⟩
      · have HFn := hid_intro ((HFb.out.set s 1).congr (g := fun t => if t < s + 1 ∧ M.first t = true then 1 else 0) (fun t ht => by
          by_cases e : t = s
          · subst e; rw [if_pos rfl, if_pos ⟨by omega, HFs.out.symm⟩]
          · rw [if_neg e]; exact (if_lt_succ e).symm))
        go_wp2_with fail
        exact ⟨⟨s + 1, by go_num, by omega, HFn.out, HKw.out.setCell ⟨F, s, none⟩ (Or.inl (by simp)) _⟩, by simp [intOf]; omega⟩
    · have hsn : ¬ (s : Int) < (S : Int) := by omega
      have hst : FarIs M 1 (fun _ _ => False) (fun t => if t < s ∧ M.first t = true then 1 else 0) := FarIs.start M _ (fun t ht => by
        rw [HMS.out] at ht
        have : (t < s ∧ M.first t = true) = (M.first t = true) := by rw [eq_iff_iff]; exact ⟨fun h => h.2, fun h => ⟨by omega, h⟩⟩
        simp only [this])
      have HSt := hid_intro hst
      clear hfa hst
      go_wp2_with fail
      go_loopw [10] (fun y wr => ∃ (k : Nat) (far : Nat → Nat), y = .int .i64 k ∧ 1 ≤ k ∧ k ≤ S + 1 ∧ FarAt wr F S far ∧ FarIs M k (fun _ _ => False) far ∧ (∀ j, j < k - 1 → ¬ BadAt M j) ∧ Keeps [F] wf wr) (fun y _ => S + 1 - (intOf y).toNat)
      case atStart => exact ⟨1, _, rfl, by omega, by omega, HFa.out, HSt.out, fun j hj => by omega, hk⟩
      case round =>
        clear HFa HSt y0 y1 y2 HKr HCr hk hsn
        obtain ⟨k, far, rfl, hk1, hkS, hfa, hfi, hbf, hk⟩ := hrel
        have HFa := hid_intro hfa
        have HFi := hid_intro hfi
        have HBf := hid_intro hbf
        clear hfa hfi hbf
        by_cases hkle : k ≤ S
        · have hki : (k : Int) ≤ (S : Int) := by omega
          have HFi0 : Hid (FarIs M k (fun s' _ => s' < 0) far) := HFi.out.same (fun _ _ _ _ => by simp)
          go_wp2_with fail
          go_loopw [11] (fun y wr => ∃ (s : Nat) (far : Nat → Nat), y = .int .i64 s ∧ s ≤ S ∧ FarAt wr F S far ∧ FarIs M k (fun s' _ => s' < s) far ∧ Fine M k (fun s' _ => s' < s) ∧ Keeps [F] wf wr) (fun y _ => S - (intOf y).toNat)
          case atStart => exact ⟨0, far, rfl, by omega, HFa.out, HFi0.out, fun s' i' h => by omega, hk⟩
          case round =>
            clear HFa HFi HFi0 hk far
            obtain ⟨s, far, rfl, hs, hfa, hfi, hfn, hk⟩ := hrel
            have HFa := hid_intro hfa
            have HFi := hid_intro hfi
            have HFn := hid_intro hfn
            clear hfa hfi hfn
            by_cases hlt2 : s < S
            · have hs0 : (0 : Int) ≤ (s : Int) := by omega
              have hs1 : (s : Int) < (S : Int) := by omega
              have hs16 : s < 16 := by omega
              have HFi0 : Hid (FarIs M k (fun s' i' => s' < s ∨ (s' = s ∧ i' < 0)) far) := HFi.out.same (fun _ _ _ _ => by simp)
              have HFn0 : Hid (Fine M k (fun s' i' => s' < s ∨ (s' = s ∧ i' < 0))) := fun s' i' h => HFn.out s' i' (by omega)
              go_wp2_with fail
              go_loopw [12] (fun y wr => ∃ (i : Nat) (far : Nat → Nat), y = .int .i64 i ∧ i ≤ NI ∧ FarAt wr F S far ∧ FarIs M k (fun s' i' => s' < s ∨ (s' = s ∧ i' < i)) far ∧ Fine M k (fun s' i' => s' < s ∨ (s' = s ∧ i' < i)) ∧ Keeps [F] wf wr) (fun y _ => NI - (intOf y).toNat)
              case atStart => exact ⟨0, far, rfl, by omega, HFa.out, HFi0.out, HFn0.out, hk⟩
              case round =>
                clear HFa HFi HFn HFi0 HFn0 hk far
                obtain ⟨i, far, rfl, hi, hfa, hfi, hfn, hk⟩ := hrel
                have f0 := (hfa s hlt2).1
                have HFa := hid_intro hfa
                have HFi := hid_intro hfi
                have HFn := hid_intro hfn
                have hlook := hfi.look hk1 (t := s) (by rw [HMS.out]; exact hlt2)
                obtain ⟨fs, hfs⟩ : ∃ q, q = far s := ⟨_, rfl⟩
                rw [← hfs] at f0 hlook
                have HFs := hid_intro hfs
                have HLook := hid_intro hlook
                clear hfa hfi hfn hfs hlook
                by_cases hin : i < NI
                · have hi0' : (0 : Int) ≤ (i : Int) := by omega
                  have hi1' : (i : Int) < (NI : Int) := by omega
                  have hi16 : i < 16 := by omega
                  by_cases hfk : fs = k
                  · have qk : ((fs : Int) == (k : Int)) = true := by simp; omega
                    have hlev := HLook.out.1 hfk
                    have HLev := hid_intro hlev
                    clear hlev hfk
                    have hFr : F < wr.heap.size := Nat.lt_of_lt_of_le hFl hk.size
                    have y0 := hk.cell z0 (by simp; omega)
                    have y1 := hk.cell z1 (by simp; omega)
                    have y2 := hk.cell z2 (by simp; omega)
                    have HKr : Hid (Keeps [] w wr) := keeps_far HKf.out hk (by simp; omega)
                    have HCr := hid_intro ((HCD.out.keeps HKr.out).keeps (Keeps.refl [] wr).drew)
                    have hkd : Keeps [] wr wr.drew := (Keeps.refl [] wr).drew
                    have s0 : wr.drew.cell? ⟨w.heap.size, 0, none⟩ = some (.slice a0 n0 c0) ∧ wr.drew.cell? ⟨w.heap.size, 1, none⟩ = some (.slice a1 n1 c1) ∧ wr.drew.cell? ⟨w.heap.size, 2, none⟩ = some (.slice a2 n2 c2) := ⟨hkd.cell y0 (by simp), hkd.cell y1 (by simp), hkd.cell y2 (by simp)⟩
                    obtain ⟨bd, hbd⟩ : ∃ b, b = M.bad s i := ⟨_, rfl⟩
                    have HBd := hid_intro hbd
                    clear hbd y0 y1 y2
                    have mk1 : True := trivial
                    go_wp2_with fail
                    go_region_held3 (fun w' => w'.cell? ⟨w.heap.size, 0, none⟩ = some (.slice a0 n0 c0) ∧ w'.cell? ⟨w.heap.size, 1, none⟩ = some (.slice a1 n1 c1) ∧ w'.cell? ⟨w.heap.size, 2, none⟩ = some (.slice a2 n2 c2))
                      (first | exact s0 | exact s1 | exact s2 | exact s3 | assumption)
                      (first
                        | (go_at_call 50; clear mk1; refine (rvals hs16 hL4).mono ?_; rintro e w2 ⟨ua, um, uc, rfl, hu, hk2⟩; have HU := hid_intro hu; have s1 := And.intro (hk2.cell s0.1 (by simp)) (And.intro (hk2.cell s0.2.1 (by simp)) (hk2.cell s0.2.2 (by simp))); clear hu)
                        | (go_at_call 50; refine (rvals hi16 hI4).mono ?_; rintro e w3 ⟨va, vm, vc, rfl, hu, hk3⟩; have HVi := hid_intro hu; have s2 := And.intro (hk3.cell s1.1 (by simp)) (And.intro (hk3.cell s1.2.1 (by simp)) (hk3.cell s1.2.2 (by simp))); clear hu)
                        | (go_at_call 21; refine (rbad_any ((HCr.out.keeps hk2).keeps hk3) (HU.out.keeps hk3) HVi.out (HSl.out s) (HIl.out i)).mono ?_; rintro e w4 ⟨rfl, hk4⟩; rw [HBadE.out, ← HBd.out]; have s3 := And.intro (hk4.cell s2.1 (by simp)) (And.intro (hk4.cell s2.2.1 (by simp)) (hk4.cell s2.2.2 (by simp))))
                        | fail)
                    have hk14 : Keeps [] wr w4 := ((hkd.trans hk2).trans hk3).trans hk4
                    have HC4 := hid_intro ((((HCr.out.keeps hk2).keeps hk3).keeps hk4).keeps (Keeps.refl [] w4).drew)
                    clear HU HVi s0 s1 s2 HCr
                    cases bd
                    · have hkd4 : Keeps [] w4 w4.drew := (Keeps.refl [] w4).drew
                      have t0 := And.intro (hkd4.cell s3.1 (by simp)) (And.intro (hkd4.cell s3.2.1 (by simp)) (hkd4.cell s3.2.2 (by simp)))
                      obtain ⟨p0, p1, p2⟩ := s3
                      obtain ⟨t, ht⟩ : ∃ t, t = M.step s i := ⟨_, rfl⟩
                      have htS : t < S := by rw [ht]; exact HStepS.out s i
                      have HTt := hid_intro ht
                      have ht0 : (0 : Int) ≤ (t : Int) := by omega
                      have ht1 : (t : Int) < (S : Int) := by omega
                      clear ht
                      have mk2 : True := trivial
                      go_wp2_with fail
                      go_region_held3 (fun w' => w'.cell? ⟨w.heap.size, 0, none⟩ = some (.slice a0 n0 c0) ∧ w'.cell? ⟨w.heap.size, 1, none⟩ = some (.slice a1 n1 c1) ∧ w'.cell? ⟨w.heap.size, 2, none⟩ = some (.slice a2 n2 c2))
                        (first | exact t0 | exact t1 | exact t2 | exact t3 | assumption)
                        (first
                          | (go_at_call 50; clear mk2; refine (rvals hs16 hL4).mono ?_; rintro e w5 ⟨ua, um, uc, rfl, hu, hk5⟩; have HU := hid_intro hu; have t1 := And.intro (hk5.cell t0.1 (by simp)) (And.intro (hk5.cell t0.2.1 (by simp)) (hk5.cell t0.2.2 (by simp))); clear hu)
                          | (go_at_call 50; refine (rvals hi16 hI4).mono ?_; rintro e w6 ⟨va, vm, vc, rfl, hu, hk6⟩; have HVi := hid_intro hu; have t2 := And.intro (hk6.cell t1.1 (by simp)) (And.intro (hk6.cell t1.2.1 (by simp)) (hk6.cell t1.2.2 (by simp))); clear hu)
                          | (go_at_call 22; refine (rstep_any ((HC4.out.keeps hk5).keeps hk6) HG.out (HU.out.keeps hk6) HVi.out (HSl.out s) (HIl.out i)).mono ?_; rintro e w7 ⟨u7, rfl, hu7, hk7⟩; have HU7 := hid_intro hu7; have t3 := And.intro (hk7.cell t2.1 (by simp)) (And.intro (hk7.cell t2.2.1 (by simp)) (hk7.cell t2.2.2 (by simp))); clear hu7)
                          | (go_at_call 51; refine (rnumber_any HU7.out.1 (HBl.out _)).mono ?_; rintro e w8 ⟨rfl, rfl⟩; rw [HStpE.out, ← HTt.out])
                          | fail)
                      have hk17 : Keeps [] wr w7 := (((hk14.trans hkd4).trans hk5).trans hk6).trans hk7
                      have HFa7 := hid_intro (HFa.out.keeps hk17 hFr (by simp))
                      have g0 := (HFa7.out t htS).1
                      have g1 := (HFa7.out t htS).2
                      have HKw := hid_intro (hk.trans (hk17.mono (S' := [F]) (by simp)))
                      have hiM : i < M.I := by rw [HMI.out]; exact hin
                      have HFn2 : Hid (Fine M k (fun s' i' => s' < s ∨ (s' = s ∧ i' < i + 1))) := fun s' i' h hl hi' => by
                        by_cases e : s' = s ∧ i' = i
                        · rw [e.1, e.2]; exact HBd.out.symm
                        · exact HFn.out s' i' (by omega) hl hi'
                      have hpair : ∀ far' : Nat → Nat, (∀ q, q < S → far' q = if q = t ∧ far q = 0 then k + 1 else far q) → FarIs M k (fun s' i' => s' < s ∨ (s' = s ∧ i' < i + 1)) far' := fun far' hf => by
                        refine (HFi.out.pair HLev.out hiM (far' := far') (fun q hq => ?_)).same (fun s' i' _ _ => by omega)
                        rw [← HTt.out]
                        exact hf q (by rw [← HMS.out]; exact hq)
                      have HPair := hid_intro hpair
                      obtain ⟨ft, hft⟩ : ∃ q, q = far t := ⟨_, rfl⟩
                      rw [← hft] at g0
                      have HFt := hid_intro hft
                      clear HU HVi HU7 t0 t1 t2 t3 hpair hft HC4
                      by_cases hz : ft = 0
                      · have qz : ((ft : Int) == 0) = true := by simp; omega
                        have HFz := hid_intro hz
                        have HFa8 := hid_intro (HFa7.out.set t (k + 1))
                        have HFi8 := hid_intro (HPair.out (fun q => if q = t then k + 1 else far q) (fun q hq => by
                          by_cases e : q = t
                          · subst e; rw [if_pos rfl, if_pos ⟨rfl, HFt.out.symm.trans HFz.out⟩]
                          · rw [if_neg e, if_neg (fun h => e h.1)]))
                        clear hz
                        go_wp2_with fail
                        exact ⟨⟨i + 1, _, by go_num, by omega, HFa8.out, HFi8.out, HFn2.out, HKw.out.setCell ⟨F, t, none⟩ (Or.inl (by simp)) _⟩, by simp [intOf]; omega⟩
                      · have qz : ((ft : Int) == 0) = false := by simp; omega
                        have HFi8 := hid_intro (HPair.out far (fun q hq => by
                          rw [if_neg (fun h => hz (by rw [HFt.out, ← h.1]; exact h.2))]))
                        clear hz
                        go_wp2_with fail
                        exact ⟨⟨i + 1, far, by go_num, by omega, HFa7.out, HFi8.out, HFn2.out, HKw.out⟩, by simp [intOf]; omega⟩
                    · have hbad : BadAt (sysOf ls) (k - 1) := by
                        rw [← HM.out]
                        exact ⟨s, i, HLev.out, by rw [HMI.out]; exact hin, HBd.out.symm⟩
                      have hbf2 : ∀ j, j < k - 1 → ¬ BadAt (sysOf ls) j := by rw [← HM.out]; exact HBf.out
                      have HBad := hid_intro hbad
                      have HBf2 := hid_intro hbf2
                      have hkf4 : Keeps [] w w4 := HKr.out.trans hk14
                      clear hbad hbf2 s3
                      go_wp2_with fail
                      go_ret3
                      exact ⟨truth_no hk1 HBad.out HBf2.out (by omega), hkf4⟩
                  · have qk : ((fs : Int) == (k : Int)) = false := by simp; omega
                    have hnl : ¬ lev M (k - 1) s := fun h => hfk (HLook.out.2 h)
                    have HFi2 : Hid (FarIs M k (fun s' _ => s' < s + 1) far) := HFi.out.same (fun s' i' hl hi' => by
                      have : ¬ s' = s := fun e => hnl (e ▸ hl)
                      omega)
                    have HFn2 : Hid (Fine M k (fun s' _ => s' < s + 1)) := fun s' i' h hl hi' => by
                      have : ¬ s' = s := fun e => hnl (e ▸ hl)
                      exact HFn.out s' i' (by omega) hl hi'
                    clear hnl hfk
                    go_wp2_with fail
                    exact ⟨⟨s + 1, far, by go_num, by omega, HFa.out, HFi2.out, HFn2.out, hk⟩, by simp [intOf]; omega⟩
                · have hi1' : ¬ (i : Int) < (NI : Int) := by omega
                  have HFi2 : Hid (FarIs M k (fun s' _ => s' < s + 1) far) := HFi.out.same (fun s' i' hl hi' => by rw [HMI.out] at hi'; omega)
                  have HFn2 : Hid (Fine M k (fun s' _ => s' < s + 1)) := fun s' i' h hl hi' => HFn.out s' i' (by have := HMI.out; omega) hl hi'
                  go_wp2_with fail
                  exact ⟨⟨s + 1, far, by go_num, by omega, HFa.out, HFi2.out, HFn2.out, hk⟩, by simp [intOf]; omega⟩
            · have hsn2 : ¬ (s : Int) < (S : Int) := by omega
              have hall : ∀ s' i', lev M (k - 1) s' → i' < M.I → s' < s := fun s' i' hl _ => by have := lev_lt hl; rw [HMS.out] at this; omega
              have HFi2 := hid_intro (HFi.out.next hk1 hall)
              have hnb := fine_level HFn.out hall
              have HBf2 : Hid (∀ j, j < k + 1 - 1 → ¬ BadAt M j) := fun j hj => by
                by_cases e : j = k - 1
                · subst e; exact hnb
                · exact HBf.out j (by omega)
              clear hall hnb
              go_wp2_with fail
              exact ⟨⟨k + 1, far, by go_num, by omega, by omega, HFa.out, HFi2.out, HBf2.out, hk⟩, by simp [intOf]; omega⟩
        · have hki : ¬ (k : Int) ≤ (S : Int) := by omega
          have hkk : k = M.S + 1 := by rw [HMS.out]; omega
          have hfi := HFi.out
          rw [hkk] at hfi
          have hcnt := cntUp_all hfi
          rw [HMS.out] at hcnt
          have hnob : ∀ j, ¬ BadAt M j := no_bad (n := M.S) (fun s hl => by have := lev_few hl; omega) (fun j hj => HBf.out j (by omega))
          have HCnt := hid_intro hcnt
          have HNob := hid_intro hnob
          have HKe : Hid (Keeps [] w wr) := keeps_far HKf.out hk (by simp; omega)
          clear hfi hcnt hnob hkk
          go_wp2_with fail
          go_loopw [15, 16] (fun y15 y16 wq => ∃ (s q : Nat), y16 = .int .i64 s ∧ y15 = .int .i64 q ∧ s ≤ S ∧ q ≤ s ∧ q = cntUp M far s ∧ wq = wr) (fun _ y16 _ => S - (intOf y16).toNat)
          case atStart => exact ⟨0, 0, rfl, rfl, by omega, by omega, by simp [cntUp], rfl⟩
          case round =>
            obtain ⟨s, q, rfl, rfl, hs, hqs, hq, hwq⟩ := hrel
            have hwq := hwq.symm
            subst hwq
            have HQ := hid_intro hq
            clear hq
            by_cases hlt2 : s < S
            · have hs0 : (0 : Int) ≤ (s : Int) := by omega
              have hs1 : (s : Int) < (S : Int) := by omega
              have f0 := (HFa.out s hlt2).1
              have hsc := cntUp_succ M far s
              obtain ⟨fs, hfs⟩ : ∃ q, q = far s := ⟨_, rfl⟩
              rw [← hfs] at f0 hsc
              rw [← HQ.out] at hsc
              clear hfs
              by_cases hp : 0 < fs
              · have hpi : (0 : Int) < (fs : Int) := by omega
                rw [if_pos hp] at hsc
                have HSc := hid_intro hsc
                clear hsc hp
                go_wp2_with fail
                exact ⟨⟨s + 1, q + 1, by go_num, by go_num, by omega, by omega, HSc.out.symm, trivial⟩, by simp [intOf]; omega⟩
              · have hpi : ¬ (0 : Int) < (fs : Int) := by omega
                rw [if_neg hp] at hsc
                have HSc := hid_intro hsc
                clear hsc hp
                go_wp2_with fail
                exact ⟨⟨s + 1, q, by go_num, rfl, by omega, by omega, HSc.out.symm, trivial⟩, by simp [intOf]; omega⟩
            · have hsn2 : ¬ (s : Int) < (S : Int) := by omega
              have hfin : q = Runs.howMany (sysOf ls) := by
                have e : s = S := by omega
                rw [HQ.out, e, HCnt.out, HM.out]
              have hno2 : ∀ j, ¬ BadAt (sysOf ls) j := by rw [← HM.out]; exact HNob.out
              have HFin := hid_intro hfin
              have HNo2 := hid_intro hno2
              clear hfin hno2
              go_wp2_with fail
              go_ret3
              exact ⟨truth_yes HNo2.out HFin.out, HKe.out⟩

end Go.Proofs.YtmgjegokkbghlaaGreatDoor

namespace Go.Proofs.YtmgjegokkbghlaaGreatDoor
open Go.RowKit Go.Maps Gram Circ Runs
set_option linter.unusedVariables false

theorem box_frozen (w : World) (u0 u1 u2 : Value) (t : TypeId) : (w.alloc (.cells #[u0, u1, u2] t)).frozen? ⟨w.heap.size, 0, none⟩ = false ∧ (w.alloc (.cells #[u0, u1, u2] t)).frozen? ⟨w.heap.size, 1, none⟩ = false ∧ (w.alloc (.cells #[u0, u1, u2] t)).frozen? ⟨w.heap.size, 2, none⟩ = false :=
  ⟨by simp, by simp, by simp⟩
theorem keeps_new3 {w w2 : World} (hk : Keeps [] w w2) {a b c : Value} : Keeps [] w (((w2.setCell ⟨w.heap.size, 0, none⟩ a).setCell ⟨w.heap.size, 1, none⟩ b).setCell ⟨w.heap.size, 2, none⟩ c) :=
  ((hk.setCell ⟨w.heap.size, 0, none⟩ (Or.inr (Nat.le_refl _)) _).setCell ⟨w.heap.size, 1, none⟩ (Or.inr (Nat.le_refl _)) _).setCell ⟨w.heap.size, 2, none⟩ (Or.inr (Nat.le_refl _)) _
theorem new3_keeps (w w2 : World) {a b c : Value} : Keeps [w.heap.size] w2 (((w2.setCell ⟨w.heap.size, 0, none⟩ a).setCell ⟨w.heap.size, 1, none⟩ b).setCell ⟨w.heap.size, 2, none⟩ c) :=
  (((Keeps.refl _ _).setCell ⟨w.heap.size, 0, none⟩ (Or.inl (by simp)) _).setCell ⟨w.heap.size, 1, none⟩ (Or.inl (by simp)) _).setCell ⟨w.heap.size, 2, none⟩ (Or.inl (by simp)) _

set_option maxRecDepth 100000 in
set_option maxHeartbeats 2000000 in
theorem rmade_any {w : World} {v : Value} {ls : List Ln} (hv : LD w v ls) :
    Calls Tryz.prog 7 #[v] w fun e w' => ∃ a0 n0 c0 a1 n1 c1 a2 n2 c2, e = .returned (.agg #[.slice a0 n0 c0, .slice a1 n1 c1, .slice a2 n2 c2]) ∧ CD w' a0 n0 c0 a1 n1 c1 a2 n2 c2 ls ∧ Keeps [] w w' := by
  have HLD := hid_intro hv
  have hD := hv.few.2
  have e1 : namesOf 108 108 ls = named 2 ls := namesOf_one (k := 2) (by omega) hD
  have e2 : namesOf 105 105 ls = named 1 ls := namesOf_one (k := 1) (by omega) hD
  have E1 := hid_intro e1
  have E2 := hid_intro e2
  obtain ⟨va, vn, vc, rfl⟩ : ∃ a n c, v = .slice a n c := by obtain ⟨g, cap, e, _⟩ := hv; exact ⟨_, _, _, e⟩
  clear hv hD e1 e2
  go_enter Tryz.func7, Tryz.ntmps7
  go_upto_region 1 with fail
  obtain ⟨wa, hwa⟩ : ∃ wa, wa = w.alloc (.cells #[.slice none 0 0, .slice none 0 0, .slice none 0 0] 34) := ⟨_, rfl⟩
  have hka : Keeps [] w wa := by rw [hwa]; exact (Keeps.refl _ _).alloc _
  have hra : w.heap.size < wa.heap.size := by rw [hwa]; simp
  obtain ⟨r0, r1, r2⟩ := box_cells w (.slice none 0 0) (.slice none 0 0) (.slice none 0 0) 34
  obtain ⟨q0, q1, q2⟩ := box_frozen w (.slice none 0 0) (.slice none 0 0) (.slice none 0 0) 34
  rw [← hwa] at r0 r1 r2 q0 q1 q2 ⊢
  have HC1 := hid_intro (rnames_any (HLD.out.keeps hka) 108 108)
  rw [E1.out] at HC1
  clear hwa
  go_wp2_with fail
  refine Calls.mono HC1.out ?_
  rintro e w1 ⟨u1, rfl, hu1, hk1⟩
  have HC2 := hid_intro (rnames_any ((HLD.out.keeps hka).keeps hk1) 105 105)
  rw [E2.out] at HC2
  have HU1 := hid_intro hu1
  clear HC1 hu1
  go_wp2_with fail
  refine Calls.mono HC2.out ?_
  rintro e w2 ⟨u2, rfl, hu2, hk2⟩
  have hk12 := hk1.trans hk2
  obtain ⟨x1, y1, z1, rfl⟩ := HU1.out.slice
  obtain ⟨x2, y2, z2, rfl⟩ := hu2.slice
  have hs1 := hk1.size
  have HU2 := hid_intro hu2
  have HUb := hid_intro (HU1.out.keeps hk2 (by simp))
  have r0 := hk12.cell r0 (by simp)
  have r1 := hk12.cell r1 (by simp)
  have r2 := hk12.cell r2 (by simp)
  have q0 := (hk12.frozen (p := ⟨w.heap.size, 0, none⟩) hra (by simp)).trans q0
  have q1 := (hk12.frozen (p := ⟨w.heap.size, 1, none⟩) hra (by simp)).trans q1
  have q2 := (hk12.frozen (p := ⟨w.heap.size, 2, none⟩) hra (by simp)).trans q2
  have hkw2 : Keeps [] w w2 := hka.trans hk12
  clear HC2 hu2 HU1
  go_wp2_with fail
  exact bodyPost_ret (v := .agg #[.slice va vn vc, .slice x1 y1 z1, .slice x2 y2 z2]) (by simp [results, Tryz.results7, go_sem, r0, r1, r2]) rfl ⟨va, vn, vc, x1, y1, z1, x2, y2, z2, rfl, ⟨HLD.out.keeps (keeps_new3 hkw2), (HUb.out.keeps (new3_keeps w w2) (by simp; omega)).base (by omega), (HU2.out.keeps (new3_keeps w w2) (by simp; omega)).base (by omega)⟩, keeps_new3 hkw2⟩

theorem TS.marks {w : World} {B L s : Nat} (h : MarksD w B L (dig L s)) (hB : B < w.heap.size) : TS w (.slice (some ⟨B, 0, none⟩) L L) (digs L s) := by
  refine ⟨BS.marks h hB (digs_len L s) (fun j hj => ?_), Or.inr ⟨B, L, by rw [digs_len]⟩⟩
  rw [digs_len] at hj
  exact digs_at hj
theorem verd_cells (w : World) (u0 u1 u2 u3 : Value) (t : TypeId) : (w.alloc (.cells #[u0, u1, u2, u3] t)).cell? ⟨w.heap.size, 0, none⟩ = some u0 ∧ (w.alloc (.cells #[u0, u1, u2, u3] t)).cell? ⟨w.heap.size, 1, none⟩ = some u1 ∧ (w.alloc (.cells #[u0, u1, u2, u3] t)).cell? ⟨w.heap.size, 2, none⟩ = some u2 ∧ (w.alloc (.cells #[u0, u1, u2, u3] t)).cell? ⟨w.heap.size, 3, none⟩ = some u3 :=
  ⟨by simp, by simp, by simp, by simp⟩
theorem after_snoc (M : Runs.Sys) (s0 : Nat) {is : List Nat} {i : Nat} (hi : i < is.length) : after M s0 (is.take (i + 1)) = M.step (after M s0 (is.take i)) (is.getD i 0) := by
  rw [List.take_succ_eq_append_getElem hi, after_append]
  simp [after, List.getD_eq_getElem?_getD, hi]
theorem after_lt (M : Runs.Sys) (hst : ∀ s i, M.step s i < M.S) : ∀ (l : List Nat) (s0 : Nat), s0 < M.S → after M s0 l < M.S
  | [], s0, h => h
  | i :: r, s0, h => after_lt M hst r _ (hst s0 i)

set_option maxRecDepth 100000 in
set_option maxHeartbeats 8000000 in
theorem rallowed_any {w : World} {a0 : Option Addr} {n0 c0 : Nat} {a1 : Option Addr} {n1 c1 : Nat} {a2 : Option Addr} {n2 c2 : Nat} {ls : List Ln} (hc : CD w a0 n0 c0 a1 n1 c1 a2 n2 c2 ls) (hg : Good ls) {base : Nat} {v : Value} (hv : VerdV base w ls v) :
    Calls Tryz.prog 8 #[.agg #[.slice a0 n0 c0, .slice a1 n1 c1, .slice a2 n2 c2], v] w fun e w' => e = .returned (.bool true) ∧ Keeps [] w w' := by
  have HG := hid_intro hg
  have HCD := hid_intro hc
  have hn1 : n1 = (named 2 ls).length := by
    obtain ⟨x1, x2, x3⟩ := hc.2.1.len'
    simp at x3
    exact x3.2.1
  have hn2 : n2 = (named 1 ls).length := by
    obtain ⟨x1, x2, x3⟩ := hc.2.2.len'
    simp at x3
    exact x3.2.1
  have hln : (latches ls).length = n1 := by rw [hn1, named2, List.length_map]
  have hL4 : n1 ≤ 4 := by rw [← hln]; exact hg.nL
  have hI3 : n2 ≤ 3 := by rw [hn2]; exact hg.nI
  rcases hv with ⟨rfl, hnb⟩ | ⟨k, s0, is, A, V, bk, ht, hk15, rfl, hm, hls, hbV, hVS, hbk, hSl⟩
  · have HNb := hid_intro hnb
    obtain ⟨H, hH⟩ : ∃ H, H = Runs.howMany (sysOf ls) := ⟨_, rfl⟩
    rw [← hH]
    have HH := hid_intro hH
    clear hnb hc hg hn1 hn2 hln hL4 hI3 hH
    go_enter Tryz.func8, Tryz.ntmps8
    go_upto_region 1 with fail
    obtain ⟨wb, hwb⟩ : ∃ wb, wb = w.alloc (.cells #[.slice a0 n0 c0, .slice a1 n1 c1, .slice a2 n2 c2] 34) := ⟨_, rfl⟩
    have hkb : Keeps [] w wb := by rw [hwb]; exact (Keeps.refl _ _).alloc _
    have hsb : wb.heap.size = w.heap.size + 1 := by rw [hwb]; simp
    obtain ⟨z0, z1, z2⟩ := box_cells w (.slice a0 n0 c0) (.slice a1 n1 c1) (.slice a2 n2 c2) 34
    rw [← hwb] at z0 z1 z2 ⊢
    obtain ⟨wv, hwv⟩ : ∃ wv, wv = wb.alloc (.cells #[.bool true, .int .i64 (H : Int), .slice none 0 0, .slice none 0 0] 25) := ⟨_, rfl⟩
    have hkv : Keeps [] wb wv := by rw [hwv]; exact (Keeps.refl _ _).alloc _
    obtain ⟨v0, v1, v2, v3⟩ := verd_cells wb (.bool true) (.int .i64 (H : Int)) (.slice none 0 0) (.slice none 0 0) 25
    rw [hsb] at v0 v1 v2 v3
    rw [← hwv] at v0 v1 v2 v3 ⊢
    have z0 := hkv.cell z0 (by simp)
    have z1 := hkv.cell z1 (by simp)
    have z2 := hkv.cell z2 (by simp)
    have HC1 := hid_intro (rtruth_any ((HCD.out.keeps hkb).keeps hkv) HG.out)
    have hkw : Keeps [] w wv := hkb.trans hkv
    clear hwb hwv hsb hkb hkv
    go_wp2_with fail
    refine Calls.mono HC1.out ?_
    rintro e w1 ⟨htr, hk1⟩
    have hkf : Keeps [] w w1 := hkw.trans hk1
    have v0 := hk1.cell v0 (by simp)
    have v1 := hk1.cell v1 (by simp)
    have v2 := hk1.cell v2 (by simp)
    have v3 := hk1.cell v3 (by simp)
    rcases htr with ⟨_, rfl⟩ | ⟨k, hb, _⟩
    · rw [← HH.out]
      clear HC1 z0 z1 z2
      go_wp2_with fail
      go_ret
      exact ⟨rfl, hkf⟩
    · exact absurd hb (HNb.out k)
  · have hfirst : firstB ls (digs n1 s0) = true := by rw [hn1, ← first_sys]; exact ht.first
    have hbadE : ∀ s i, (badOf ls).ev (Circ.look (named 2 ls ++ named 1 ls) (digs n1 s ++ digs n2 i)) = (sysOf ls).bad s i := fun s i => by rw [hn1, hn2]; rfl
    have hstpE : ∀ s i, stepB ls (Circ.look (named 2 ls ++ named 1 ls) (digs n1 s ++ digs n2 i)) = digs n1 ((sysOf ls).step s i) := fun s i => by
      have e1 : numOf (stepB ls (Circ.look (named 2 ls ++ named 1 ls) (digs n1 s ++ digs n2 i))) = (sysOf ls).step s i := by rw [hn1, hn2]; rfl
      have e2 : (stepB ls (Circ.look (named 2 ls ++ named 1 ls) (digs n1 s ++ digs n2 i))).length = n1 := by rw [stepB_len, hn1]
      rw [← e1]
      have := digs_num (l := stepB ls (Circ.look (named 2 ls ++ named 1 ls) (digs n1 s ++ digs n2 i))) (by rw [e2]; omega)
      rw [e2] at this
      exact this.symm
    have hsl : ∀ s, (digs n1 s).length = (named 2 ls).length := fun s => by rw [digs_len]; exact hn1
    have hil : ∀ i, (digs n2 i).length = (named 1 ls).length := fun i => by rw [digs_len]; exact hn2
    have hll : (digs n1 s0).length = (latches ls).length := by rw [digs_len, hln]
    rw [hln] at hm ⊢
    rw [← hn2] at hls
    have HSt0 := hid_intro (TS.marks hm hSl)
    have hin : ∀ j, j < k + 1 → w.cell? ⟨V, j, none⟩ = some (.slice (some ⟨bk j, 0, none⟩) n2 n2) ∧ TS w (.slice (some ⟨bk j, 0, none⟩) n2 n2) (digs n2 (is.getD j 0)) := fun j hj => by
      obtain ⟨q1, q2, q3, q4, _⟩ := (hls j hj).2.2 (by omega)
      exact ⟨q1, TS.marks q2 q4⟩
    have HIn := hid_intro hin
    have HFirst := hid_intro hfirst
    have HBadE := hid_intro hbadE
    have HStpE := hid_intro hstpE
    have HSl := hid_intro hsl
    have HIl := hid_intro hil
    have HLl := hid_intro hll
    have HT := hid_intro ht
    obtain ⟨m, hm1⟩ : ∃ m, m = k + 1 := ⟨_, rfl⟩
    have hkw1 : IntKind.i64.wrap ((k : Int) + 1) = (m : Int) := by rw [IntWalk.i64_in _ ⟨by omega, by omega⟩]; omega
    rw [← hm1]
    have HM1 := hid_intro hm1
    clear hc hg hn1 hn2 hln hfirst hbadE hstpE hsl hil hll hin ht hm hls hbV hVS hbk hSl hm1
    go_enter Tryz.func8, Tryz.ntmps8
    go_upto_region 1 with fail
    obtain ⟨wb, hwb⟩ : ∃ wb, wb = w.alloc (.cells #[.slice a0 n0 c0, .slice a1 n1 c1, .slice a2 n2 c2] 34) := ⟨_, rfl⟩
    have hkb : Keeps [] w wb := by rw [hwb]; exact (Keeps.refl _ _).alloc _
    have hsb : wb.heap.size = w.heap.size + 1 := by rw [hwb]; simp
    obtain ⟨z0, z1, z2⟩ := box_cells w (.slice a0 n0 c0) (.slice a1 n1 c1) (.slice a2 n2 c2) 34
    rw [← hwb] at z0 z1 z2 ⊢
    obtain ⟨wv, hwv⟩ : ∃ wv, wv = wb.alloc (.cells #[.bool false, .int .i64 0, .slice (some ⟨A, 0, none⟩) n1 n1, .slice (some ⟨V, 0, none⟩) m m] 25) := ⟨_, rfl⟩
    have hkv : Keeps [] wb wv := by rw [hwv]; exact (Keeps.refl _ _).alloc _
    obtain ⟨v0, v1, v2, v3⟩ := verd_cells wb (.bool false) (.int .i64 0) (.slice (some ⟨A, 0, none⟩) n1 n1) (.slice (some ⟨V, 0, none⟩) m m) 25
    rw [hsb] at v0 v1 v2 v3
    rw [← hwv] at v0 v1 v2 v3 ⊢
    have z0 := hkv.cell z0 (by simp)
    have z1 := hkv.cell z1 (by simp)
    have z2 := hkv.cell z2 (by simp)
    have HC1 := hid_intro (rtruth_any ((HCD.out.keeps hkb).keeps hkv) HG.out)
    have hkw : Keeps [] w wv := hkb.trans hkv
    clear hwb hwv hsb hkb hkv
    go_wp2_with fail
    refine Calls.mono HC1.out ?_
    rintro e w1 ⟨htr, hk1⟩
    have hkw2 : Keeps [] w w1 := hkw.trans hk1
    have v0 := hk1.cell v0 (by simp)
    have v1 := hk1.cell v1 (by simp)
    have v2 := hk1.cell v2 (by simp)
    have v3 := hk1.cell v3 (by simp)
    have z0 := hk1.cell z0 (by simp)
    have z1 := hk1.cell z1 (by simp)
    have z2 := hk1.cell z2 (by simp)
    rcases htr with ⟨hno, _⟩ | ⟨k', hb, hlst, _, rfl⟩
    · exact absurd HT.out.bad (hno k)
    have hkk : k' = k := by
      rcases Nat.lt_trichotomy k' k with h | h | h
      · exact absurd hb (HT.out.least k' h)
      · exact h
      · exact absurd HT.out.bad (hlst k h)
    subst hkk
    have HC2 := hid_intro (rfirst_any (HCD.out.keeps hkw2) (HSt0.out.1.keeps hkw2) HLl.out)
    rw [HFirst.out] at HC2
    clear HC1 hb hlst
    go_wp2_with fail
    refine Calls.mono HC2.out ?_
    rintro e w2 ⟨rfl, hk2⟩
    have hkw3 : Keeps [] w w2 := hkw2.trans hk2
    have v2 := hk2.cell v2 (by simp)
    have v3 := hk2.cell v3 (by simp)
    have z0 := hk2.cell z0 (by simp)
    have z1 := hk2.cell z1 (by simp)
    have z2 := hk2.cell z2 (by simp)
    clear HC2 v0 v1
    go_wp2_with fail
    go_loopw [9, 10] (fun y9 y10 wr => ∃ (i : Nat) (sa : Option Addr) (sn sc : Nat), y10 = .int .i64 i ∧ i ≤ k' ∧ y9 = .slice sa sn sc ∧ TS wr (.slice sa sn sc) (digs n1 (after (sysOf ls) s0 (is.take i))) ∧ Keeps [] w2 wr) (fun _ y10 _ => k' + 1 - (intOf y10).toNat)
    case atStart => exact ⟨0, _, _, _, rfl, by omega, rfl, HSt0.out.keeps hkw3, Keeps.refl _ _⟩
    case round =>
      obtain ⟨i, sa, sn, sc, rfl, hi, rfl, hst, hkr⟩ := hrel
      have HSt := hid_intro hst
      have hi0 : (0 : Int) ≤ (i : Int) := by omega
      have hi1 : (i : Int) < (m : Int) := by have := HM1.out; omega
      have him : i < m := by have := HM1.out; omega
      obtain ⟨hci, hti⟩ := HIn.out i (by omega)
      have hkw4 : Keeps [] w wr := hkw3.trans hkr
      have hci := hkw4.cell hci (by simp)
      have HTi := hid_intro (hti.keeps hkw4)
      have v3 := hkr.cell v3 (by simp)
      have z0 := hkr.cell z0 (by simp)
      have z1 := hkr.cell z1 (by simp)
      have z2 := hkr.cell z2 (by simp)
      obtain ⟨b, hb⟩ : ∃ b, b = bk i := ⟨_, rfl⟩
      rw [← hb] at hci HTi
      have hkd : Keeps [] wr wr.drew := (Keeps.refl [] wr).drew
      have hkd2 : Keeps [] wr wr.drew.drew := hkd.drew
      have p0 : wr.drew.cell? ⟨w.heap.size + 1, 3, none⟩ = some (.slice (some ⟨V, 0, none⟩) m m) ∧ wr.drew.cell? ⟨V, i, none⟩ = some (.slice (some ⟨b, 0, none⟩) n2 n2) ∧ wr.drew.cell? ⟨w.heap.size, 2, none⟩ = some (.slice a2 n2 c2) := ⟨hkd.cell v3 (by simp), hkd.cell hci (by simp), hkd.cell z2 (by simp)⟩
      have r0 : wr.drew.drew.cell? ⟨w.heap.size + 1, 3, none⟩ = some (.slice (some ⟨V, 0, none⟩) m m) ∧ wr.drew.drew.cell? ⟨V, i, none⟩ = some (.slice (some ⟨b, 0, none⟩) n2 n2) ∧ wr.drew.drew.cell? ⟨w.heap.size, 0, none⟩ = some (.slice a0 n0 c0) ∧ wr.drew.drew.cell? ⟨w.heap.size, 1, none⟩ = some (.slice a1 n1 c1) ∧ wr.drew.drew.cell? ⟨w.heap.size, 2, none⟩ = some (.slice a2 n2 c2) := ⟨hkd2.cell v3 (by simp), hkd2.cell hci (by simp), hkd2.cell z0 (by simp), hkd2.cell z1 (by simp), hkd2.cell z2 (by simp)⟩
      clear hst hb hti
      go_wp2_with fail
      go_region_held3 (fun w' => w'.cell? ⟨w.heap.size + 1, 3, none⟩ = some (.slice (some ⟨V, 0, none⟩) m m) ∧ w'.cell? ⟨V, i, none⟩ = some (.slice (some ⟨b, 0, none⟩) n2 n2) ∧ w'.cell? ⟨w.heap.size, 2, none⟩ = some (.slice a2 n2 c2))
        (first | exact p0 | assumption)
        (fail)
      obtain ⟨st, hst⟩ : ∃ st, st = after (sysOf ls) s0 (is.take i) := ⟨_, rfl⟩
      rw [← hst] at HSt
      have HStE := hid_intro hst
      obtain ⟨ip, hip⟩ : ∃ ip, ip = is.getD i 0 := ⟨_, rfl⟩
      rw [← hip] at HTi
      have HIp := hid_intro hip
      clear hst hip p0 v3 hci z0 z1 z2
      by_cases hik : i = k'
      · have qk : ((i : Int) == (k' : Int)) = true := by simp; omega
        have hbd : (sysOf ls).bad st ip = true := by
          rw [HStE.out, HIp.out, hik]
          exact HT.out.ends
        have HBd := hid_intro hbd
        clear hik hbd
        go_wp2_with fail
        go_region_held3 (fun w' => w'.cell? ⟨w.heap.size + 1, 3, none⟩ = some (.slice (some ⟨V, 0, none⟩) m m) ∧ w'.cell? ⟨V, i, none⟩ = some (.slice (some ⟨b, 0, none⟩) n2 n2) ∧ w'.cell? ⟨w.heap.size, 0, none⟩ = some (.slice a0 n0 c0) ∧ w'.cell? ⟨w.heap.size, 1, none⟩ = some (.slice a1 n1 c1) ∧ w'.cell? ⟨w.heap.size, 2, none⟩ = some (.slice a2 n2 c2))
          (first | exact r0 | exact r1 | assumption)
          (first
            | (go_at_call 21; refine (rbad_any ((HCD.out.keeps hkw4).keeps hkd2) (HSt.out.keeps hkd2) (HTi.out.keeps hkd2) (HSl.out st) (HIl.out ip)).mono ?_; rintro e w3 ⟨rfl, hk3⟩; rw [HBadE.out, HBd.out]; have r1 := And.intro (hk3.cell r0.1 (by simp)) (And.intro (hk3.cell r0.2.1 (by simp)) (And.intro (hk3.cell r0.2.2.1 (by simp)) (And.intro (hk3.cell r0.2.2.2.1 (by simp)) (hk3.cell r0.2.2.2.2 (by simp))))))
            | fail)
        have hkf : Keeps [] w w3 := (hkw4.trans hkd2).trans hk3
        go_wp2_with fail
        go_ret
        exact ⟨rfl, hkf⟩
      · have qk : ((i : Int) == (k' : Int)) = false := by simp; omega
        have hnx : after (sysOf ls) s0 (is.take (i + 1)) = (sysOf ls).step st ip := by
          rw [after_snoc (sysOf ls) s0 (by rw [HT.out.len]; omega), HStE.out, HIp.out]
        have HNx := hid_intro hnx
        have hik2 : i < k' := by omega
        clear hik hnx
        go_wp2_with fail
        go_region_held3 (fun w' => w'.cell? ⟨w.heap.size + 1, 3, none⟩ = some (.slice (some ⟨V, 0, none⟩) m m) ∧ w'.cell? ⟨V, i, none⟩ = some (.slice (some ⟨b, 0, none⟩) n2 n2) ∧ w'.cell? ⟨w.heap.size, 0, none⟩ = some (.slice a0 n0 c0) ∧ w'.cell? ⟨w.heap.size, 1, none⟩ = some (.slice a1 n1 c1) ∧ w'.cell? ⟨w.heap.size, 2, none⟩ = some (.slice a2 n2 c2))
          (first | exact r0 | exact r1 | assumption)
          (first
            | (go_at_call 22; refine (rstep_any ((HCD.out.keeps hkw4).keeps hkd2) HG.out (HSt.out.keeps hkd2) (HTi.out.keeps hkd2) (HSl.out st) (HIl.out ip)).mono ?_; rintro e w3 ⟨u3, rfl, hu3, hk3⟩; rw [HStpE.out] at hu3; obtain ⟨ua, un, uc, rfl⟩ := hu3.len; have HU3 := hid_intro hu3; have r1 := And.intro (hk3.cell r0.1 (by simp)) (And.intro (hk3.cell r0.2.1 (by simp)) (And.intro (hk3.cell r0.2.2.1 (by simp)) (And.intro (hk3.cell r0.2.2.2.1 (by simp)) (hk3.cell r0.2.2.2.2 (by simp))))); clear hu3)
            | fail)
        have hkf : Keeps [] w2 w3 := (hkr.trans hkd2).trans hk3
        go_wp2_with fail
        exact ⟨⟨i + 1, ua, un, uc, by go_num, by omega, rfl, by rw [HNx.out]; exact HU3.out, hkf⟩, by simp [intOf]; omega⟩

end Go.Proofs.YtmgjegokkbghlaaGreatDoor

namespace Go.Proofs.YtmgjegokkbghlaaGreatDoor
open Go.RowKit Go.Maps Gram Circ
set_option linter.unusedVariables false

/-- what Read answers -/
def RReadIs (w' : World) (t : List UInt8) (e : Ending) : Prop := match readP t with
  | .err k line => e = .returned (.tuple #[.slice none 0 0, .int .i64 (k : Int), .int .i64 (line : Int)])
  | .ok ls => ∃ a n c, e = .returned (.tuple #[.slice a n c, .int .i64 0, .int .i64 0]) ∧ LD w' (.slice a n c) ls
theorem rreadIs_err {w' : World} {t : List UInt8} {k line : Nat} (h : readP t = .err k line) : RReadIs w' t (.returned (.tuple #[.slice none 0 0, .int .i64 (k : Int), .int .i64 (line : Int)])) := by
  unfold RReadIs; rw [h]
theorem rreadIs_ok {w' : World} {t : List UInt8} {ls : List Ln} {a : Option Addr} {n c : Nat} (h : readP t = .ok ls) (hl : LD w' (.slice a n c) ls) : RReadIs w' t (.returned (.tuple #[.slice a n c, .int .i64 0, .int .i64 0])) := by
  unfold RReadIs; rw [h]; exact ⟨a, n, c, rfl, hl⟩
theorem LD.few2 {w : World} {v : Value} {ls : List Ln} (h : LD w v ls) : ∀ x ∈ ls, LnD x := by
  obtain ⟨g, cap, _, _, _, _, h5, _⟩ := h
  exact h5
theorem pieces_ne0 : ∀ (l cur : List UInt8), pieces cur l ≠ []
  | [], cur => by simp [pieces]
  | c :: r, cur => by
    unfold pieces
    split
    · simp
    · exact pieces_ne0 r _
theorem bl_cut (s : ByteArray) (f i : Nat) : bl (s.extract f i) = ((bl s).drop f).take (i - f) := by rw [bl_extract, List.drop_take]
theorem cut_size (s : ByteArray) {f i : Nat} (hi : i ≤ s.size) (hs : s.size ≤ 1000) : (s.extract f i).size ≤ 1000 := by
  rw [← bl_len, bl_cut, List.length_take, List.length_drop, bl_len]; omega
theorem read_long {t : List UInt8} (h : 1000 < t.length) : readP t = .err 4 0 := by unfold readP; rw [if_pos h]
theorem read_none {t : List UInt8} {ps r : List (List UInt8)} {ls : List Ln} {p : List UInt8} (h : ¬ 1000 < t.length) (hp : pieces [] t = ps ++ p :: r) (hl : linesOf ps = some ls) (hs : sayOf p = none) : readP t = .err 7 (ls.length + 1) := by
  have h1 := wrongAt_at (r := r) hl hs
  rw [← hp] at h1
  unfold readP
  rw [if_neg h, h1.1]
  simp only
  rw [h1.2, ← linesOf_len hl]

set_option maxRecDepth 100000 in
set_option maxHeartbeats 8000000 in
theorem rread_any {w : World} (s : ByteArray) :
    Calls Tryz.prog 6 #[.string s] w fun e w' => RReadIs w' (bl s) e ∧ Keeps [] w w' := by
  obtain ⟨i0, hI0, hZ0, hZ1, hZ2⟩ := info_parts infoLineD
  have hml : 2000000 < maxLen := by decide
  obtain ⟨Z, hZ⟩ : ∃ Z, Z = s.size := ⟨_, rfl⟩
  have hbl : (bl s).length = Z := by rw [bl_len, hZ]
  have HZ := hid_intro hZ
  have HBl := hid_intro hbl
  by_cases hlong : 1000 < Z
  · have h1 : (1000 : Int) < (s.size : Int) := by omega
    have HR := hid_intro (read_long (by rw [hbl]; exact hlong : 1000 < (bl s).length))
    clear hZ hbl
    go_enter Tryz.func6, Tryz.ntmps6
    go_wp2_with fail
    go_ret3
    exact ⟨rreadIs_err HR.out, Keeps.refl _ _⟩
  · have h1 : ¬ (1000 : Int) < (s.size : Int) := by omega
    have HLong : Hid (¬ 1000 < (bl s).length) := by show ¬ _; rw [hbl]; exact hlong
    have hz1000 : s.size ≤ 1000 := by omega
    clear hbl hZ
    go_enter Tryz.func6, Tryz.ntmps6
    go_wp2_with fail
    go_loopw [5, 6, 7] (fun y5 y6 y7 wr => ∃ (ls : List Ln) (ms : List Value) (ps : List (List UInt8)) (f i : Nat), y7 = .int .i64 i ∧ y6 = .int .i64 f ∧ i ≤ Z + 1 ∧ f ≤ i ∧ ls.length ≤ i ∧ CutAt (bl s) ps f i ∧ linesOf ps = some ls ∧ LRow wr w.heap.size y5 ls ms ∧ Keeps [] w wr) (fun _ _ y7 _ => Z + 1 - (intOf y7).toNat)
    case atStart => exact ⟨[], [], [], 0, 0, rfl, rfl, by omega, by omega, by simp, CutAt.start _, rfl, LRow.nil _ _, Keeps.refl _ _⟩
    case round =>
      obtain ⟨ls, ms, ps, f, i, rfl, rfl, hi, hfi, hli, hcut, hlines, hrow, hk⟩ := hrel
      have HCut := hid_intro hcut
      have HLines := hid_intro hlines
      obtain ⟨ra, rc, hy5, hrb⟩ := hrow.slice
      subst hy5
      have HRow := hid_intro hrow
      have HRb := hid_intro hrb
      obtain ⟨q, hq⟩ : ∃ q, q = ls.length := ⟨_, rfl⟩
      have HQ := hid_intro hq
      rw [← hq] at hli ⊢
      have hzz := HZ.out
      have hsz := hk.size
      clear hcut hlines hrow hrb hq
      by_cases hle : i ≤ Z
      · have hle1 : (i : Int) ≤ (s.size : Int) := by omega
        have hi0 : (0 : Int) ≤ (i : Int) := by omega
        have hf0 : (0 : Int) ≤ (f : Int) := by omega
        have hfi1 : (f : Int) ≤ (i : Int) := by omega
        by_cases hcont : ∃ h : i < s.size, ¬ s[i] = 10
        · obtain ⟨hlt, h10⟩ := hcont
          have hlt1 : (i : Int) < (s.size : Int) := by omega
          have q10 : ((s[i].toNat : Int) != 10) = true := by
            have : ¬ s[i].toNat = 10 := fun h => h10 (UInt8.toNat_inj.1 (by rw [h]; rfl))
            simp
            omega
          have hon := HCut.out.on (by rw [bl_len]; exact hlt) (by rw [bl_get s i hlt]; simpa using h10)
          have HOn := hid_intro hon
          clear hon h10
          go_wp2_with fail
          refine ⟨⟨ls, ms, ps, f, i + 1, by go_num, rfl, by omega, by omega, by rw [← HQ.out]; omega, HOn.out, HLines.out, ?_, hk⟩, by simp [intOf]; omega⟩
          rw [HQ.out]
          exact HRow.out
        · have hcase : (∃ h : i < s.size, s[i] = 10) ∨ i = s.size := by
            by_cases h : i < s.size
            · exact Or.inl ⟨h, Classical.byContradiction fun h2 => hcont ⟨h, h2⟩⟩
            · exact Or.inr (by omega)
          have hcutd : CutAt (bl s) (ps ++ [bl (s.extract f i)]) (i + 1) (i + 1) ∧ ∃ r, pieces [] (bl s) = ps ++ bl (s.extract f i) :: r := by
            rw [bl_cut]
            rcases hcase with ⟨h, h10⟩ | h
            · exact HCut.out.cut (by rw [bl_len]; exact h) (by rw [bl_get s i h, h10]; rfl)
            · exact HCut.out.last (by rw [bl_len]; exact h)
          have HCd := hid_intro hcutd
          have HC := hid_intro (rsay_any (w := wr) (s.extract f i) (cut_size s (by omega) hz1000))
          obtain ⟨p, hp⟩ : ∃ p, p = s.extract f i := ⟨_, rfl⟩
          have hpz : p.size ≤ 1000 := by rw [hp]; exact cut_size s (by omega) hz1000
          have HPz := hid_intro hpz
          rw [← hp] at HC HCd
          have HP := hid_intro hp
          have hcw : (((i : Int) < (s.size : Int)) ∧ ∃ h : i < s.size, ((s[i].toNat : Int) != 10) = false) ∨ ¬ (i : Int) < (s.size : Int) := by
            rcases hcase with ⟨h, h10⟩ | h
            · exact Or.inl ⟨by omega, h, by rw [h10]; rfl⟩
            · exact Or.inr (by omega)
          clear hcont hcase hcutd hp hpz
          rcases hcw with ⟨hlt1, hlt, q10⟩ | hge
          all_goals
            go_wp2_with fail
            rw [← HP.out]
            refine Calls.mono HC.out ?_
            rintro e w2 ⟨hk2, hsay⟩
            clear HC
            have hs2 := hk2.size
            cases hs : sayOf (bl p) with
            | none =>
              obtain ⟨k, nm, fb, a, m, c, rfl⟩ := hsay.no hs
              obtain ⟨r, hr⟩ := HCd.out.2
              have HR := hid_intro (read_none HLong.out hr HLines.out hs)
              rw [← HQ.out] at HR
              clear hsay hs hr
              go_upto_region 10 with fail
              have hkx := lineBox_keeps w2 k nm fb (.slice a m c)
              obtain ⟨x0, x1, x2, x3⟩ := lineBox_cells w2 k nm fb (.slice a m c)
              obtain ⟨wx, hwx⟩ : ∃ wx, wx = lineBox w2 k nm fb (.slice a m c) := ⟨_, rfl⟩
              rw [← hwx] at hkx x0 x1 x2 x3
              unfold lineBox at hwx
              rw [← hwx]
              have hsx := hkx.size
              have HRo : Hid (wx.ownsRow w.heap.size 59 4 (.slice ra q rc) q (flatD ls ms)) := by
                have := ((HRow.out.keeps hk2).keeps hkx).2.1
                rw [← HQ.out] at this
                exact this
              have HRx := hid_intro ((HRow.out.keeps hk2).keeps hkx)
              rw [← HQ.out] at HRx
              clear hwx
              go_wp2_with (first
                | (at_builtin; refine wpList_append_own_at _ rfl _ _ 29 rfl w.heap.size 59 i0 _ 4 56 Tryz.underlying29 hI0 hZ0 hZ1 hZ2 rfl (by decide) _ q (flatD ls ms) rfl (World.ownsRow.alloc (HRo.out) _) ⟨wx.heap.size, 0, none⟩ 1 1 [.int .u8 k, .string nm, .int .u8 fb, .slice a m c] rfl rfl (cells_new _ _ _) (by simp [Value.oneCell']) (by omega) (by omega) (by simp; omega) ?_; intro v' w3 hown' hgrow hnil hloc; obtain ⟨g', cap', rfl⟩ := own_slice hown'; have HOW := hid_intro hown'; have HGR := hid_intro hgrow; have HLoc := hid_intro hloc; clear hown' hgrow hloc hnil)
                | fail)
              have hk3 : Keeps [] w w3 := push_keeps' HRo.out HGR.out ((hk.trans hk2).trans hkx)
              go_ret3
              exact ⟨rreadIs_err HR.out, hk3⟩
            | some x =>
              obtain ⟨a, m, c, rfl, hwx0, hbx⟩ := hsay.yes hs
              have hd := sayD hs (by rw [bl_len]; exact HPz.out)
              have hln := linesOf_snoc HLines.out hs
              have HD := hid_intro hd
              have HLn := hid_intro hln
              have HWx := hid_intro hwx0
              have HBx := hid_intro hbx
              clear hsay hs hd hln hwx0 hbx
              obtain ⟨xk, hxk⟩ : ∃ k, k = kb x.kind := ⟨_, rfl⟩
              obtain ⟨xf, hxf⟩ : ∃ k, k = atB x.first := ⟨_, rfl⟩
              obtain ⟨xn, hxn⟩ : ∃ k, k = x.name := ⟨_, rfl⟩
              rw [← hxk, ← hxf, ← hxn]
              have HXk := hid_intro hxk
              have HXf := hid_intro hxf
              have HXn := hid_intro hxn
              clear hxk hxf hxn
              go_upto_region 10 with fail
              have hkx := lineBox_keeps w2 xk xn xf (.slice a m c)
              obtain ⟨x0, x1, x2, x3⟩ := lineBox_cells w2 xk xn xf (.slice a m c)
              obtain ⟨wx, hwx⟩ : ∃ wx, wx = lineBox w2 xk xn xf (.slice a m c) := ⟨_, rfl⟩
              rw [← hwx] at hkx x0 x1 x2 x3
              unfold lineBox at hwx
              rw [← hwx]
              have hsx := hkx.size
              have HRo : Hid (wx.ownsRow w.heap.size 59 4 (.slice ra q rc) q (flatD ls ms)) := by
                have := ((HRow.out.keeps hk2).keeps hkx).2.1
                rw [← HQ.out] at this
                exact this
              have HRx := hid_intro ((HRow.out.keeps hk2).keeps hkx)
              rw [← HQ.out] at HRx
              clear hwx
              go_wp2_with (first
                | (at_builtin; refine wpList_append_own_at _ rfl _ _ 29 rfl w.heap.size 59 i0 _ 4 56 Tryz.underlying29 hI0 hZ0 hZ1 hZ2 rfl (by decide) _ q (flatD ls ms) rfl (World.ownsRow.alloc (HRo.out) _) ⟨wx.heap.size, 0, none⟩ 1 1 [.int .u8 xk, .string xn, .int .u8 xf, .slice a m c] rfl rfl (cells_new _ _ _) (by simp [Value.oneCell']) (by omega) (by omega) (by simp; omega) ?_; intro v' w3 hown' hgrow hnil hloc; obtain ⟨g', cap', rfl⟩ := own_slice hown'; have HOW := hid_intro hown'; have HGR := hid_intro hgrow; have HLoc := hid_intro hloc; clear hown' hgrow hloc hnil)
                | fail)
              have hk3 : Keeps [] w w3 := push_keeps' HRo.out HGR.out ((hk.trans hk2).trans hkx)
              refine ⟨⟨ls ++ [x], ms ++ [.slice a m c], ps ++ [bl p], i + 1, i + 1, by go_num, by go_num, by omega, by omega, by rw [List.length_append, ← HQ.out]; simp; omega, HCd.out.1, HLn.out, ?_, hk3⟩, by simp [intOf]; omega⟩
              have hww : WS wx (.slice a m c) x.ws := HWx.out.keeps hkx
              have hqq := HQ.out
              subst hqq
              have hown := HOW.out
              rw [HXk.out, HXn.out, HXf.out] at hown
              have hrow0 := (HRow.out.keeps hk2).keeps hkx
              refine LRow.snoc hrow0 HD.out hww (fun b hb hne => ⟨?_, fun e2 => ?_⟩) ((Keeps.refl [] wx).alloc _) hown HGR.out HLoc.out
              · obtain ⟨b', o', e1, h2, _⟩ := hww.word (j := 0) (List.length_pos_iff.2 hne)
                rw [e1] at hb
                cases hb
                exact h2
              · have h1 := HBx.out b hb
                have h2 := HRb.out b e2
                omega
      · have hle1 : ¬ (i : Int) ≤ (s.size : Int) := by omega
        have hpc := HCut.out.done (by rw [bl_len]; omega)
        have hlines : linesOf (pieces [] (bl s)) = some ls := by rw [hpc]; exact HLines.out
        have hrd := readP_some HLong.out hlines
        have hne : ls ≠ [] := fun e => by
          have h1 := linesOf_len hlines
          rw [e] at h1
          exact pieces_ne0 (bl s) [] (List.length_eq_zero_iff.1 h1.symm)
        have hld := HRow.out.ld hne (by rw [← HQ.out]; omega)
        rw [← HQ.out] at hld
        have HLd := hid_intro hld
        have HRd := hid_intro hrd
        have hq1 : q ≤ 1001 := by omega
        clear hpc hlines hrd hne hld HCut HLines HRow HRb
        go_upto_region 15 with fail
        obtain ⟨we, hwe⟩ : ∃ we, we = wr.alloc (.cells #[.int .i64 8, .int .i64 4, .int .i64 9, .int .i64 10] 26) := ⟨_, rfl⟩
        have hke : Keeps [] wr we := by rw [hwe]; exact (Keeps.refl _ _).alloc _
        have hec : ∀ v, v < 4 → we.cell? ⟨wr.heap.size, v, none⟩ = some (.int .i64 (errW (v + 2) : Int)) := fun v hv => by
          rw [hwe, World.cell?_alloc_at _ _ _ _ rfl]
          have : v = 0 ∨ v = 1 ∨ v = 2 ∨ v = 3 := by omega
          rcases this with rfl | rfl | rfl | rfl <;> rfl
        have HEc := hid_intro hec
        rw [← hwe]
        obtain ⟨E, hE⟩ : ∃ E, E = wr.heap.size := ⟨_, rfl⟩
        rw [← hE] at HEc ⊢
        have HLe := hid_intro (HLd.out.keeps hke)
        have hkwe : Keeps [] w we := hk.trans hke
        clear hwe hec hE HLd hke hk
        go_wp2_with fail
        go_loopw [11] (fun y wq => ∃ v : Nat, y = .int .i64 v ∧ v ≤ 4 ∧ (∀ u, u < v → ∀ j, j < ls.length → wrongW ls (u + 2) j = false) ∧ Keeps [] we wq) (fun y _ => 4 - (intOf y).toNat)
        case atStart => exact ⟨0, rfl, by omega, fun u hu => by omega, Keeps.refl _ _⟩
        case round =>
          obtain ⟨v, rfl, hv, hbef, hkq⟩ := hrel
          have HBef := hid_intro hbef
          clear hbef
          by_cases hv4 : v < 4
          · have hv0 : (0 : Int) ≤ (v : Int) := by omega
            have hv1 : (v : Int) < 4 := by omega
            go_wp2_with fail
            go_loopw [12] (fun y wq => ∃ j : Nat, y = .int .i64 j ∧ j ≤ q ∧ (∀ j', j' < j → wrongW ls (v + 2) j' = false) ∧ Keeps [] we wq) (fun y _ => q - (intOf y).toNat)
            case atStart => exact ⟨0, rfl, by omega, fun j' h => by omega, hkq⟩
            case round =>
              obtain ⟨j, rfl, hj, hwr, hkj⟩ := hrel
              have HWr := hid_intro hwr
              clear hwr
              by_cases hjq : j < q
              · have hj0 : (0 : Int) ≤ (j : Int) := by omega
                have hj1 : (j : Int) < (q : Int) := by omega
                have hjl : j < ls.length := by rw [← HQ.out]; exact hjq
                obtain ⟨y, hy⟩ : ∃ y, y = v + 2 := ⟨_, rfl⟩
                have hyw : IntKind.i64.wrap ((v : Int) + 2) = (y : Int) := by rw [IntWalk.i64_in _ ⟨by omega, by omega⟩]; omega
                have HC := hid_intro (rwrong_any (HLe.out.keeps hkj) hjl (way := y) (by omega))
                obtain ⟨bd, hbd⟩ : ∃ b, b = wrongW ls y j := ⟨_, rfl⟩
                rw [← hbd] at HC
                rw [hy] at hbd
                have HBd := hid_intro hbd
                have HJl := hid_intro hjl
                clear hy hbd
                go_wp2_with fail
                refine Calls.mono HC.out ?_
                rintro e w2 ⟨rfl, hk2⟩
                clear HC
                cases bd
                · have HW2 : Hid (∀ j', j' < j + 1 → wrongW ls (v + 2) j' = false) := fun j' h => by
                    by_cases e : j' = j
                    · rw [e]; exact HBd.out.symm
                    · exact HWr.out j' (by omega)
                  have hk3 : Keeps [] we w2 := hkj.trans hk2
                  go_wp2_with fail
                  exact ⟨⟨j + 1, by go_num, by omega, HW2.out, hk3⟩, by simp [intOf]; omega⟩
                · have HR := hid_intro (HRd.out.trans (judge_at hv4 HBef.out HJl.out HWr.out HBd.out.symm))
                  obtain ⟨ev, hev⟩ : ∃ e, e = errW (v + 2) := ⟨_, rfl⟩
                  have e0 := hk2.cell (hkj.cell (HEc.out v hv4) (by simp)) (by simp)
                  rw [← hev] at e0 HR
                  have s0 : w2.drew.cell? ⟨E, v, none⟩ = some (.int .i64 (ev : Int)) ∧ True := ⟨((Keeps.refl [] w2).drew).cell e0 (by simp), trivial⟩
                  have hkf : Keeps [] w w2.drew := ((hkwe.trans hkj).trans hk2).drew
                  clear hev e0
                  go_wp2_with fail
                  go_region_held3 (fun w' => w'.cell? ⟨E, v, none⟩ = some (.int .i64 (ev : Int)) ∧ True)
                    (first | exact s0 | assumption)
                    (fail)
                  go_wp2_with fail
                  go_ret3
                  refine ⟨?_, hkf⟩
                  have hh := rreadIs_err (w' := w2.drew) HR.out
                  have hjw : IntKind.i64.wrap ((j : Int) + 1) = ((j + 1 : Nat) : Int) := by rw [IntWalk.i64_in _ ⟨by omega, by omega⟩]; omega
                  rw [← hjw] at hh
                  exact hh
              · have hjn : ¬ (j : Int) < (q : Int) := by omega
                have HB2 : Hid (∀ u, u < v + 1 → ∀ j, j < ls.length → wrongW ls (u + 2) j = false) := fun u hu j' hj' => by
                  by_cases e : u = v
                  · rw [e]; exact HWr.out j' (by have := HQ.out; omega)
                  · exact HBef.out u (by omega) j' hj'
                go_wp2_with fail
                exact ⟨⟨v + 1, by go_num, by omega, HB2.out, hkj⟩, by simp [intOf]; omega⟩
          · have hvn : ¬ (v : Int) < 4 := by omega
            have hje := judge_end (ls := ls) (fun u hu j hj => HBef.out u (by omega) j hj)
            have e4 : namesOf 98 98 ls = named 4 ls := namesOf_one (k := 4) (by omega) HLe.out.few2
            have HC := hid_intro (rnames_any (HLe.out.keeps hkq) 98 98)
            rw [e4] at HC
            have HJe := hid_intro (HRd.out.trans hje)
            obtain ⟨m, hm⟩ : ∃ m, m = (named 4 ls).length := ⟨_, rfl⟩
            rw [← hm] at HJe
            have HM := hid_intro hm
            clear hje e4 hm
            go_wp2_with fail
            refine Calls.mono HC.out ?_
            rintro e w2 ⟨u, rfl, hu, hk2⟩
            obtain ⟨ua, uc, rfl⟩ := hu.len
            rw [← HM.out]
            have hkf : Keeps [] w w2 := (hkwe.trans hkq).trans hk2
            have HL2 := hid_intro ((HLe.out.keeps hkq).keeps hk2)
            clear HC hu
            by_cases hm0 : m = 0
            · have qm : ((m : Int) == 0) = true := by simp; omega
              have HR := hid_intro (HJe.out.trans (if_pos hm0))
              clear hm0
              go_wp2_with fail
              go_ret3
              exact ⟨rreadIs_err HR.out, hkf⟩
            · have qm : ((m : Int) == 0) = false := by simp; omega
              have HR := hid_intro (HJe.out.trans (if_neg hm0))
              clear hm0
              go_wp2_with fail
              go_ret3
              exact ⟨rreadIs_ok HR.out HL2.out, hkf⟩

end Go.Proofs.YtmgjegokkbghlaaGreatDoor

namespace Go.Proofs.YtmgjegokkbghlaaGreatDoor
open Go.RowKit Go.Maps Gram Circ Runs
set_option linter.unusedVariables false

set_option maxRecDepth 100000 in
set_option maxHeartbeats 4000000 in
theorem verdicts_walk {w : World} (hG : Glob w) (s : ByteArray) :
    Calls Tryz.prog 3 #[.string s] w fun e w' => e = .returned (.bool true) ∧ Keeps [] w w' := by
  have HC1 := hid_intro (check_any hG s)
  go_enter Tryz.func3, Tryz.ntmps3
  go_wp2_with fail
  refine Calls.mono HC1.out ?_
  rintro e w1 ⟨hc, hk1⟩
  clear HC1
  unfold CheckIs at hc
  have HC2 := hid_intro (rread_any (w := w1) s)
  cases hp : readP (bl s) with
  | err k line =>
    rw [hp] at hc
    have hc : e = .returned (.tuple #[.agg #[.bool false, .int .i64 0, .slice none 0 0, .slice none 0 0], .int .i64 (k : Int), .int .i64 (line : Int)]) := hc
    subst hc
    have hk0 := err_pos hp
    have HP := hid_intro hp
    clear hp
    go_upto_region 2 with fail
    obtain ⟨wv, hwv⟩ : ∃ wv, wv = w1.alloc (.cells #[.bool false, .int .i64 0, .slice none 0 0, .slice none 0 0] 25) := ⟨_, rfl⟩
    have hkv : Keeps [] w1 wv := by rw [hwv]; exact (Keeps.refl _ _).alloc _
    obtain ⟨v0, v1, v2, v3⟩ := verd_cells w1 (.bool false) (.int .i64 0) (.slice none 0 0) (.slice none 0 0) 25
    rw [← hwv] at v0 v1 v2 v3 ⊢
    have HC3 := hid_intro (rread_any (w := wv) s)
    clear hwv HC2
    go_wp2_with fail
    refine Calls.mono HC3.out ?_
    rintro e w2 ⟨hr, hk2⟩
    unfold RReadIs at hr
    rw [HP.out] at hr
    have hr : e = .returned (.tuple #[.slice none 0 0, .int .i64 (k : Int), .int .i64 (line : Int)]) := hr
    subst hr
    have v0 := hk2.cell v0 (by simp)
    have v1 := hk2.cell v1 (by simp)
    have v2 := hk2.cell v2 (by simp)
    have v3 := hk2.cell v3 (by simp)
    have hkf : Keeps [] w w2 := (hk1.trans hkv).trans hk2
    have q0 : ((k : Int) == 0) = false := by simp; omega
    have q1 : ((k : Int) != 0) = true := by simp; omega
    clear HC3 HP
    go_wp2_with fail
    go_ret
    exact ⟨rfl, hkf⟩
  | ok ls =>
    rw [hp] at hc
    obtain ⟨v, rfl, hv⟩ := hc
    have hg := good_of hp
    have HP := hid_intro hp
    have HG := hid_intro hg
    have HV := hid_intro hv
    obtain ⟨vb, vx, va, vn, vc, va', vn', vc', rfl⟩ : ∃ b x a n c a' n' c', v = .agg #[.bool b, .int .i64 x, .slice a n c, .slice a' n' c'] := by
      rcases hv with ⟨rfl, _⟩ | ⟨k, s0, is, A, V, bk, _, _, rfl, _⟩
      · exact ⟨_, _, _, _, _, _, _, _, rfl⟩
      · exact ⟨_, _, _, _, _, _, _, _, rfl⟩
    clear hp hg hv
    go_upto_region 2 with fail
    obtain ⟨wv, hwv⟩ : ∃ wv, wv = w1.alloc (.cells #[.bool vb, .int .i64 vx, .slice va vn vc, .slice va' vn' vc'] 25) := ⟨_, rfl⟩
    have hkv : Keeps [] w1 wv := by rw [hwv]; exact (Keeps.refl _ _).alloc _
    obtain ⟨v0, v1, v2, v3⟩ := verd_cells w1 (.bool vb) (.int .i64 vx) (.slice va vn vc) (.slice va' vn' vc') 25
    rw [← hwv] at v0 v1 v2 v3 ⊢
    have HC3 := hid_intro (rread_any (w := wv) s)
    clear hwv HC2
    go_wp2_with fail
    refine Calls.mono HC3.out ?_
    rintro e w2 ⟨hr, hk2⟩
    unfold RReadIs at hr
    rw [HP.out] at hr
    obtain ⟨la, ln, lc, rfl, hld⟩ := hr
    have HLd := hid_intro hld
    have v0 := hk2.cell v0 (by simp)
    have v1 := hk2.cell v1 (by simp)
    have v2 := hk2.cell v2 (by simp)
    have v3 := hk2.cell v3 (by simp)
    have hk12 : Keeps [] w1 w2 := hkv.trans hk2
    have hkd : Keeps [] w2 w2.drew := (Keeps.refl [] w2).drew
    have HLD := hid_intro (hld.keeps hkd)
    have HV2 := hid_intro ((HV.out.keeps hk12 (by simp)).keeps hkd (by simp))
    have s0 : w2.drew.cell? ⟨w1.heap.size, 0, none⟩ = some (.bool vb) ∧ w2.drew.cell? ⟨w1.heap.size, 1, none⟩ = some (.int .i64 vx) ∧ w2.drew.cell? ⟨w1.heap.size, 2, none⟩ = some (.slice va vn vc) ∧ w2.drew.cell? ⟨w1.heap.size, 3, none⟩ = some (.slice va' vn' vc') := ⟨hkd.cell v0 (by simp), hkd.cell v1 (by simp), hkd.cell v2 (by simp), hkd.cell v3 (by simp)⟩
    have hkw : Keeps [] w w2.drew := (hk1.trans hk12).trans hkd
    clear HC3 HP hld v0 v1 v2 v3
    go_wp2_with fail
    go_region_held3 (fun w' => w'.cell? ⟨w1.heap.size, 0, none⟩ = some (.bool vb) ∧ w'.cell? ⟨w1.heap.size, 1, none⟩ = some (.int .i64 vx) ∧ w'.cell? ⟨w1.heap.size, 2, none⟩ = some (.slice va vn vc) ∧ w'.cell? ⟨w1.heap.size, 3, none⟩ = some (.slice va' vn' vc'))
      (first | exact s0 | exact s1 | exact s2 | assumption)
      (first
        | (go_at_call 7; refine (rmade_any HLD.out).mono ?_; rintro e w3 ⟨a0, n0, c0, a1, n1, c1, a2, n2, c2, rfl, hcd, hk3⟩; have HCD := hid_intro hcd; have s1 := And.intro (hk3.cell s0.1 (by simp)) (And.intro (hk3.cell s0.2.1 (by simp)) (And.intro (hk3.cell s0.2.2.1 (by simp)) (hk3.cell s0.2.2.2 (by simp)))); clear hcd)
        | (go_at_call 8; refine (rallowed_any HCD.out HG.out (HV2.out.keeps hk3 (by simp))).mono ?_; rintro e w4 ⟨rfl, hk4⟩; have s2 := And.intro (hk4.cell s1.1 (by simp)) (And.intro (hk4.cell s1.2.1 (by simp)) (And.intro (hk4.cell s1.2.2.1 (by simp)) (hk4.cell s1.2.2.2 (by simp)))))
        | fail)
    have hkf : Keeps [] w w4 := (hkw.trans hk3).trans hk4
    go_wp2_with fail
    go_ret
    exact ⟨rfl, hkf⟩

end Go.Proofs.YtmgjegokkbghlaaGreatDoor
