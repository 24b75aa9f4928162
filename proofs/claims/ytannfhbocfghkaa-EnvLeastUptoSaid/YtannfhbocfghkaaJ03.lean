/- Texts joined: EnvF, ShelfRev. -/
import Derived.Test.YtannfhbocfghkaaJ02
import Derived.Shelf.SlicesQ.Reverse
import Derived.Ground.SlgnProg
import Derived.Test.YtannfhbocfghkaaProg
/- Contracts of the kids of a part, and of a pair of parts. -/
namespace Go.Proofs.Ytannfhbocfghkaa.EnvC
open Go Go.RowKit Go.Lib Go.Sort Go.Proofs.Ytannfhbocfghkaa.EnvP

/-- a part: where it lies, whether within a Box or a Ref, what it is -/
structure Pt where
  b : Nat
  o : Nat
  ins : Bool
  t : ETy
def Pt.cells (x : Pt) : List Value := [.pointer (some ⟨x.b, x.o, none⟩), .bool x.ins]
def adr : Value → Nat × Nat | .slice (some a) _ _ => (a.block, a.off) | _ => (0, 0)
def kidAt (v : Value) (i : Nat) : Nat × Nat := ((adr v).1, (adr v).2 + i * 5)
def Pt.kid (x : Pt) (i : Nat) (t : ETy) : Pt := ⟨(kidAt x.t.kv i).1, (kidAt x.t.kv i).2, x.ins || innerK x.t.kind, t⟩
def Pt.kids (x : Pt) : List Pt := x.t.kids.mapIdx x.kid
/-- a pair of parts -/
structure Pr where
  b : Nat
  o : Nat
  t : ETy
  c : Nat
  q : Nat
  u : ETy
def Pr.cells (x : Pr) : List Value := [.pointer (some ⟨x.b, x.o, none⟩), .pointer (some ⟨x.c, x.q, none⟩)]
def Pr.kid (x : Pr) (i : Nat) (p : ETy × ETy) : Pr := ⟨(kidAt x.t.kv i).1, (kidAt x.t.kv i).2, p.1, (kidAt x.u.kv i).1, (kidAt x.u.kv i).2, p.2⟩
def Pr.kids (x : Pr) : List Pr := (x.t.kids.zip x.u.kids).mapIdx x.kid

theorem own_lower {w : World} {b c : Nat} {e : TypeId} {size n : Nat} {v : Value} {xs : List Value} (h : w.ownsRow c e size v n xs) (hb : b ≤ c) : w.ownsRow b e size v n xs := by
  obtain ⟨h1, h2 | ⟨g, cap, cur, h2, h3, h4⟩⟩ := h
  · exact ⟨h1, .inl h2⟩
  · exact ⟨h1, .inr ⟨g, cap, cur, h2, by omega, h4⟩⟩
/-- a row whose first things hold these cells, two each -/
def Filled (xs : List Value) (ks : List (List Value)) (i : Nat) : Prop := ∀ j, j < i → ∀ c, ks[j]? = some c → ∀ k u, c[k]? = some u → xs[j * 2 + k]? = some u
theorem Filled.step {xs : List Value} {ks : List (List Value)} {i : Nat} (h : Filled xs ks i) {a b : Value} (hc : ks[i]? = some [a, b]) (h2 : ∀ c ∈ ks, c.length = 2) (hi : i * 2 + 2 ≤ xs.length) : Filled ((xs.set (i * 2) a).set (i * 2 + 1) b) ks (i + 1) := by
  intro j hj c hcj k u hk
  have hl : k < 2 := by
    have := h2 c (List.mem_of_getElem? hcj)
    have hk2 := (List.getElem?_eq_some_iff.1 hk).1
    omega
  rw [List.getElem?_set, List.getElem?_set]
  by_cases hji : j = i
  · subst hji
    rw [hc] at hcj
    cases hcj
    match k, hk, hl with
    | 0, hk, _ => cases hk; rw [if_neg (by omega), if_pos (by omega), if_pos (by omega)]
    | 1, hk, _ => cases hk; rw [if_pos rfl, if_pos (by rw [List.length_set]; omega)]
  · rw [if_neg (by omega), if_neg (by omega)]
    exact h j (by omega) c hcj k u hk
theorem filled_lies {w : World} {base : Nat} {e : TypeId} {g n cap : Nat} {xs : List Value} {ks : List (List Value)} (h : w.ownsRow base e 2 (.slice (some ⟨g, 0, none⟩) n cap) n xs) (hf : Filled xs ks n) (hn : ks.length = n) (h2 : ∀ c ∈ ks, c.length = 2) : Lies w 2 (.slice (some ⟨g, 0, none⟩) n cap) ks := by
  obtain ⟨h1, ⟨h3, _⟩ | ⟨g', cap', cur, h3, _, _, h5, _⟩⟩ := id h
  · cases h3
  injection h3 with e1 e2 e3
  subst e3
  refine ⟨_, _, by rw [hn], by rw [hn]; exact h5, fun _ => ⟨g, 0, rfl, fun i c hi j u hj => ?_⟩⟩
  have hlt : i < n := by rw [← hn]; exact (List.getElem?_eq_some_iff.1 hi).1
  have hjl : j < 2 := by
    have := h2 c (List.mem_of_getElem? hi)
    have hk2 := (List.getElem?_eq_some_iff.1 hj).1
    omega
  rw [Nat.zero_add]
  exact (h.cellAt _ (by omega)).trans (hf i hlt c hi j u hj)
theorem pt_info : (Try.prog.info? 60).map (fun i => (i.zero, i.size, i.bytes)) = some (some (.agg #[.pointer none, .bool false]), 2, 16) := by kernel_rfl
theorem pr_info : (Try.prog.info? 68).map (fun i => (i.zero, i.size, i.bytes)) = some (some (.agg #[.pointer none, .pointer none]), 2, 16) := by kernel_rfl

set_option maxHeartbeats 8000000 in
set_option maxRecDepth 100000 in
theorem kids_any (x : Pt) (w : World) (h : TyAt w x.b x.o x.t) (hs : Small x.t) :
    Calls Try.prog 38 #[.agg x.cells.toArray] w fun r w' => ∃ g c n xs, r = .returned (.slice (some ⟨g, 0, none⟩) n c) ∧ (x.kids.map Pt.cells).length = n ∧ w'.ownsRow w.heap.size 60 2 (.slice (some ⟨g, 0, none⟩) n c) n xs ∧ Filled xs (x.kids.map Pt.cells) n ∧ Below w.heap.size w w' := by
  obtain ⟨i0, hinf, hz0, hz1, hz2⟩ := info_parts pt_info
  have hsm := hs.kids
  obtain ⟨b, o, ins, t⟩ := x
  obtain ⟨k, m, g, lv, ls, kv, kids⟩ := t
  have h2 := h.2
  rw [ETy.In] at h2
  obtain ⟨q, d, hd, hq⟩ := lies_slice h2.2.2.1
  obtain ⟨p, d', e', _, hpo⟩ := h2.2.2.1
  rw [hq] at e'
  injection e' with e1 e2 e3
  subst e1 e3
  clear e2
  have hx := h.1
  dsimp only at hx hsm
  have B0 : Below w.heap.size w (w.alloc (.cells #[.pointer (some ⟨b, o, none⟩), .bool ins] 60 (0, 0))) := (Below.refl _ _).alloc (Nat.le_refl _) _
  have X0 : BoxAt (w.alloc (.cells #[.pointer (some ⟨b, o, none⟩), .bool ins] 60 (0, 0))) w.heap.size [.pointer (some ⟨b, o, none⟩), .bool ins] := BoxAt.new w _ _
  have y0 := later B0 (hx 0 (.int .i64 k) rfl)
  have y4 := later B0 (hx 4 kv rfl)
  rw [Nat.add_zero] at y0
  subst hq
  obtain ⟨KS, hKS⟩ : ∃ KS, (Pt.kids ⟨b, o, ins, .mk k m g lv ls (.slice q kids.length d) kids⟩).map Pt.cells = KS := ⟨_, rfl⟩
  rw [hKS]
  have hKl : KS.length = kids.length := by rw [← hKS, List.length_map]; unfold Pt.kids; rw [List.length_mapIdx]; rfl
  have hK2 : ∀ c ∈ KS, c.length = 2 := by intro c hc; rw [← hKS] at hc; obtain ⟨y, _, rfl⟩ := List.mem_map.1 hc; rfl
  obtain ⟨I, hI⟩ : ∃ I, (ins || innerK k) = I := ⟨_, rfl⟩
  have hKi : ∀ i, i < kids.length → ∃ kb ko, q = some ⟨kb, ko, none⟩ ∧ KS[i]? = some [.pointer (some ⟨kb, ko + i * 5, none⟩), .bool I] := fun i hi => by
    obtain ⟨kb, ko, e, _⟩ := hpo (by intro e; rw [List.map_eq_nil_iff] at e; rw [e] at hi; simp at hi)
    subst e
    refine ⟨kb, ko, rfl, ?_⟩
    rw [← hKS, List.getElem?_map]
    unfold Pt.kids
    rw [List.getElem?_mapIdx, show ETy.kids _ = kids from rfl, List.getElem?_eq_getElem hi]
    show some (Pt.cells _) = _
    rw [← hI]; rfl
  have hN := hsm.1
  change kids.length ≤ 1048576 at hN
  clear h h2 hs hsm hx hpo hKS
  generalize kids.length = N at *
  have HI := hid hI
  have HKi := hid hKi
  have HK2 := hid hK2
  have HKl := hid hKl
  have H0 := hid B0
  have HX := hid X0
  clear hI hKi hK2 hKl B0 X0
  unfold Pt.cells
  dsimp only
  have hcase : ins = true ∨ (ins = false ∧ k = 2) ∨ (ins = false ∧ k = 4) ∨ (ins = false ∧ (k == 2) = false ∧ (k == 4) = false) := by
    cases ins
    · by_cases h2 : k = 2
      · exact .inr (.inl ⟨rfl, h2⟩)
      · by_cases h4 : k = 4
        · exact .inr (.inr (.inl ⟨rfl, h4⟩))
        · exact .inr (.inr (.inr ⟨rfl, by simp [h2], by simp [h4]⟩))
    · exact .inl rfl
  have T3 : Hid (∀ c : Bool, (ins = true → c = true) → True) := hid fun _ _ => trivial
  rcases hcase with rfl | ⟨rfl, rfl⟩ | ⟨rfl, rfl⟩ | ⟨rfl, hk2, hk4⟩
  all_goals (
    have hI := HI.out
    first | rw [show (true || innerK k) = true from rfl] at hI | rw [show (false || innerK 2) = true from rfl] at hI | rw [show (false || innerK 4) = true from rfl] at hI | rw [show (false || innerK k) = false by unfold innerK; rw [hk2, hk4]; rfl] at hI
    subst hI
    clear HI T3
    go_enter Try.func38, Try.ntmps38
    go_wp2_with (at_make; go_loud (refine wpList_make_full _ rfl _ _ 86 rfl (w.heap.size + 1) 60 i0 (.agg #[.pointer none, .bool false]) 2 Try.underlying86 hinf hz0 hz1 .i64 .i64 _ _ N rfl rfl rfl rfl (by rw [hz2]; omega) (by unfold maxLen; omega) (by rw [World.size_alloc]; omega) ?_); intro w1 hown hgr)
    generalize hW0 : World.alloc w _ = W0 at *
    have hs0 : W0.heap.size = w.heap.size + 1 := by rw [← hW0]; simp
    rw [hs0] at hown
    have hb1 : Below (w.heap.size + 1) W0 w1 := (Below.refl _ _).grown hgr (by omega) (by simp)
    have HO := hid hown
    have HB := hid hb1
    have HS := hid hs0
    have x0 := HX.out 0 (.pointer (some ⟨b, o, none⟩)) rfl
    have hltb : b < w.heap.size + 1 := by rw [← hs0]; exact World.block_lt_of_cell? _ _ y4
    clear hown hb1 hs0 hW0 hgr
    go_loopg [33] N (fun gf u wx => ∃ (i : Nat) (xs : List Value), u = .int .i64 (i : Int) ∧ i ≤ N ∧ N ≤ i + gf ∧ Hid (wx.ownsRow (w.heap.size + 1) 60 2 (.slice (some ⟨w.heap.size + 1, 0, none⟩) N N) N xs) ∧ Hid (Filled xs KS i) ∧ Hid (Below (w.heap.size + 1) W0 wx))
    case atStart => exact ⟨0, _, rfl, by omega, by omega, HO, hid (fun j hj => by omega), HB⟩
    case round =>
      obtain ⟨i, xs, rfl, hi, hg, HOi, HF, HBi⟩ := hrel
      clear HO HB
      by_cases hlt : i < N
      · obtain ⟨kb, ko, rfl, hk⟩ := HKi.out i hlt
        have z0 := (HBi.out.cell (p := ⟨w.heap.size, 0, none⟩) (Nat.lt_succ_self _)).trans x0
        have z4 := (HBi.out.cell (p := ⟨b, o + 4, none⟩) hltb).trans y4
        have hxl : xs.length = N * 2 := HOi.out.1
        have f0 := HOi.out.frozenAt (i * 2)
        have f1 := HOi.out.frozenAt (i * 2 + 1)
        obtain ⟨v0, hv0⟩ : ∃ v, xs[i * 2]? = some v := ⟨xs[i * 2]'(by omega), List.getElem?_eq_getElem _⟩
        obtain ⟨v1, hv1⟩ : ∃ v, xs[i * 2 + 1]? = some v := ⟨xs[i * 2 + 1]'(by omega), List.getElem?_eq_getElem _⟩
        have c0 := (HOi.out.cellAt (i * 2) (by omega)).trans hv0
        have c1 := (HOi.out.cellAt (i * 2 + 1) (by omega)).trans hv1
        have HN : Hid (Filled ((xs.set (i * 2) (.pointer (some ⟨kb, ko + i * 5, none⟩))).set (i * 2 + 1) (.bool _)) KS (i + 1)) := hid (HF.out.step hk HK2.out (by omega))
        have HO2 := hid fun (I' : Bool) => (((HOi.out.stored (i * 2) (.pointer (some ⟨kb, ko + i * 5, none⟩))).1.stored (i * 2 + 1) (.bool I')).1)
        have HB2 := hid fun (I' : Bool) => ((HBi.out.setCell (p := ⟨w.heap.size + 1, i * 2, none⟩) (Nat.le_refl _) (.pointer (some ⟨kb, ko + i * 5, none⟩))).setCell (p := ⟨w.heap.size + 1, i * 2 + 1, none⟩) (Nat.le_refl _) (.bool I'))
        clear hv0 hv1 hk x0 y0 y4 HX hxl HKi HF
        go_wp2_with fail
        go_roundg (gk - 1)
        case measure => omega
        case rel => exact ⟨i + 1, _, by go_num, by omega, by omega, HO2.out _, HN, HB2.out _⟩
      · obtain rfl : i = N := by omega
        clear HX x0 y0 y4
        go_wp2_with fail
        go_ret
        exact ⟨_, _, _, _, rfl, HKl.out, own_lower HOi.out (Nat.le_succ _), HF.out, H0.out.trans (HBi.out.mono (by omega))⟩
    )

set_option maxHeartbeats 8000000 in
set_option maxRecDepth 100000 in
theorem prKids_any (x : Pr) (w : World) (h : TyAt w x.b x.o x.t) (h' : TyAt w x.c x.q x.u) (hs : Small x.t) (hlen : x.t.kids.length = x.u.kids.length) :
    Calls Try.prog 43 #[.agg x.cells.toArray] w fun r w' => ∃ g c n xs, r = .returned (.slice (some ⟨g, 0, none⟩) n c) ∧ (x.kids.map Pr.cells).length = n ∧ w'.ownsRow w.heap.size 68 2 (.slice (some ⟨g, 0, none⟩) n c) n xs ∧ Filled xs (x.kids.map Pr.cells) n ∧ Below w.heap.size w w' := by
  obtain ⟨i0, hinf, hz0, hz1, hz2⟩ := info_parts pr_info
  have hsm := hs.kids
  obtain ⟨b, o, t, c, q, u⟩ := x
  obtain ⟨k, m, g, lv, ls, kv, kids⟩ := t
  obtain ⟨k', m', g', lv', ls', kv', kids'⟩ := u
  have h2 := h.2
  have h2' := h'.2
  rw [ETy.In] at h2 h2'
  obtain ⟨pa, da, hda, ha⟩ := lies_slice h2.2.2.1
  obtain ⟨pb, db, hdb, hb⟩ := lies_slice h2'.2.2.1
  obtain ⟨p1, d1, e1, _, hpo⟩ := h2.2.2.1
  obtain ⟨p2, d2, e2, _, hpo'⟩ := h2'.2.2.1
  rw [ha] at e1
  rw [hb] at e2
  injection e1 with e11 e12 e13
  injection e2 with e21 e22 e23
  subst e11 e13 e21 e23
  clear e12 e22
  have hx := h.1
  have hx' := h'.1
  change kids.length = kids'.length at hlen
  dsimp only at hx hx' hsm
  have B0 : Below w.heap.size w (w.alloc (.cells #[.pointer (some ⟨b, o, none⟩), .pointer (some ⟨c, q, none⟩)] 68 (0, 0))) := (Below.refl _ _).alloc (Nat.le_refl _) _
  have X0 : BoxAt (w.alloc (.cells #[.pointer (some ⟨b, o, none⟩), .pointer (some ⟨c, q, none⟩)] 68 (0, 0))) w.heap.size [.pointer (some ⟨b, o, none⟩), .pointer (some ⟨c, q, none⟩)] := BoxAt.new w _ _
  have y4 := later B0 (hx 4 kv rfl)
  have y4' := later B0 (hx' 4 kv' rfl)
  subst ha hb
  obtain ⟨KS, hKS⟩ : ∃ KS, (Pr.kids ⟨b, o, .mk k m g lv ls (.slice pa kids.length da) kids, c, q, .mk k' m' g' lv' ls' (.slice pb kids'.length db) kids'⟩).map Pr.cells = KS := ⟨_, rfl⟩
  rw [hKS]
  have hKl : KS.length = kids.length := by rw [← hKS, List.length_map]; unfold Pr.kids; rw [List.length_mapIdx, List.length_zip]; show min kids.length kids'.length = _; omega
  have hK2 : ∀ c ∈ KS, c.length = 2 := by intro c hc; rw [← hKS] at hc; obtain ⟨y, _, rfl⟩ := List.mem_map.1 hc; rfl
  have hKi : ∀ i, i < kids.length → ∃ kb ko kc kq, pa = some ⟨kb, ko, none⟩ ∧ pb = some ⟨kc, kq, none⟩ ∧ KS[i]? = some [.pointer (some ⟨kb, ko + i * 5, none⟩), .pointer (some ⟨kc, kq + i * 5, none⟩)] := fun i hi => by
    obtain ⟨kb, ko, e, _⟩ := hpo (by intro e; rw [List.map_eq_nil_iff] at e; rw [e] at hi; simp at hi)
    obtain ⟨kc, kq, e', _⟩ := hpo' (by intro e; rw [List.map_eq_nil_iff] at e; rw [hlen, e] at hi; simp at hi)
    subst e e'
    refine ⟨kb, ko, kc, kq, rfl, rfl, ?_⟩
    rw [← hKS, List.getElem?_map]
    unfold Pr.kids
    rw [List.getElem?_mapIdx]
    have e : (kids.zip kids')[i]? = some (kids[i], kids'[i]'(by omega)) := by rw [List.getElem?_eq_getElem (by rw [List.length_zip]; omega), List.getElem_zip]
    show Option.map Pr.cells (Option.map _ ((kids.zip kids')[i]?)) = _
    rw [e]
    rfl
  have hN := hsm.1
  change kids.length ≤ 1048576 at hN
  rw [← hlen] at y4'
  clear h h' h2 h2' hs hsm hx hx' hpo hpo' hKS
  rw [← hlen] at hdb
  generalize kids.length = N at *
  clear hlen
  have HKi := hid hKi
  have HK2 := hid hK2
  have HKl := hid hKl
  have H0 := hid B0
  have HX := hid X0
  clear hKi hK2 hKl B0 X0
  unfold Pr.cells
  dsimp only
  go_enter Try.func43, Try.ntmps43
  go_wp2_with (at_make; go_loud (refine wpList_make_full _ rfl _ _ 89 rfl (w.heap.size + 1) 68 i0 (.agg #[.pointer none, .pointer none]) 2 Try.underlying89 hinf hz0 hz1 .i64 .i64 _ _ N rfl rfl rfl rfl (by rw [hz2]; omega) (by unfold maxLen; omega) (by rw [World.size_alloc]; omega) ?_); intro w1 hown hgr)
  generalize hW0 : World.alloc w _ = W0 at *
  have hs0 : W0.heap.size = w.heap.size + 1 := by rw [← hW0]; simp
  rw [hs0] at hown
  have hb1 : Below (w.heap.size + 1) W0 w1 := (Below.refl _ _).grown hgr (by omega) (by simp)
  have HO := hid hown
  have HB := hid hb1
  have x0 := HX.out 0 (.pointer (some ⟨b, o, none⟩)) rfl
  have x1 := HX.out 1 (.pointer (some ⟨c, q, none⟩)) rfl
  have hltb : b < w.heap.size + 1 := by rw [← hs0]; exact World.block_lt_of_cell? _ _ y4
  have hltc : c < w.heap.size + 1 := by rw [← hs0]; exact World.block_lt_of_cell? _ _ y4'
  clear hown hb1 hs0 hW0 hgr
  go_loopg [14] N (fun gf u wx => ∃ (i : Nat) (xs : List Value), u = .int .i64 (i : Int) ∧ i ≤ N ∧ N ≤ i + gf ∧ Hid (wx.ownsRow (w.heap.size + 1) 68 2 (.slice (some ⟨w.heap.size + 1, 0, none⟩) N N) N xs) ∧ Hid (Filled xs KS i) ∧ Hid (Below (w.heap.size + 1) W0 wx))
  case atStart => exact ⟨0, _, rfl, by omega, by omega, HO, hid (fun j hj => by omega), HB⟩
  case round =>
    obtain ⟨i, xs, rfl, hi, hg, HOi, HF, HBi⟩ := hrel
    clear HO HB
    by_cases hlt : i < N
    · obtain ⟨kb, ko, kc, kq, rfl, rfl, hk⟩ := HKi.out i hlt
      have z0 := (HBi.out.cell (p := ⟨w.heap.size, 0, none⟩) (Nat.lt_succ_self _)).trans x0
      have z1 := (HBi.out.cell (p := ⟨w.heap.size, 1, none⟩) (Nat.lt_succ_self _)).trans x1
      have z4 := (HBi.out.cell (p := ⟨b, o + 4, none⟩) hltb).trans y4
      have z4' := (HBi.out.cell (p := ⟨c, q + 4, none⟩) hltc).trans y4'
      have hxl : xs.length = N * 2 := HOi.out.1
      have f0 := HOi.out.frozenAt (i * 2)
      have f1 := HOi.out.frozenAt (i * 2 + 1)
      obtain ⟨v0, hv0⟩ : ∃ v, xs[i * 2]? = some v := ⟨xs[i * 2]'(by omega), List.getElem?_eq_getElem _⟩
      obtain ⟨v1, hv1⟩ : ∃ v, xs[i * 2 + 1]? = some v := ⟨xs[i * 2 + 1]'(by omega), List.getElem?_eq_getElem _⟩
      have c0 := (HOi.out.cellAt (i * 2) (by omega)).trans hv0
      have c1 := (HOi.out.cellAt (i * 2 + 1) (by omega)).trans hv1
      have HN : Hid (Filled ((xs.set (i * 2) (.pointer (some ⟨kb, ko + i * 5, none⟩))).set (i * 2 + 1) (.pointer (some ⟨kc, kq + i * 5, none⟩))) KS (i + 1)) := hid (HF.out.step hk HK2.out (by omega))
      have HO2 := hid ((((HOi.out.stored (i * 2) (.pointer (some ⟨kb, ko + i * 5, none⟩))).1.stored (i * 2 + 1) (.pointer (some ⟨kc, kq + i * 5, none⟩))).1).drew)
      have HB2 := hid (((HBi.out.setCell (p := ⟨w.heap.size + 1, i * 2, none⟩) (Nat.le_refl _) (.pointer (some ⟨kb, ko + i * 5, none⟩))).setCell (p := ⟨w.heap.size + 1, i * 2 + 1, none⟩) (Nat.le_refl _) (.pointer (some ⟨kc, kq + i * 5, none⟩))).drew)
      clear hv0 hv1 hk x0 x1 y4 y4' HX hxl HKi HF
      go_wp2_with fail
      go_region
      go_wp2_with fail
      go_roundg (gk - 1)
      case measure => omega
      case rel => exact ⟨i + 1, _, by go_num, by omega, by omega, HO2, HN, HB2⟩
    · obtain rfl : i = N := by omega
      clear HX x0 x1 y4 y4'
      go_wp2_with fail
      go_ret
      exact ⟨_, _, _, _, rfl, HKl.out, own_lower HOi.out (Nat.le_succ _), HF.out, H0.out.trans (HBi.out.mono (by omega))⟩
end Go.Proofs.Ytannfhbocfghkaa.EnvC
/-
  DERIVED: THE SHELF's CONTRACTS AT THIS DUMP, IN PLAIN WORDS (tools/lay-plain.mjs out of 'TryShelfRev.lean', which tools/lay-shelf.mjs wrote): THE SAME DECLARATIONS UNDER THE SAME NAMES: 'import', 'namespace', 'open', 'def', 'theorem' AND NOTHING ELSE: no command of the shelf's: FOR A HAND-IN. Each laying: the table of numbers ('.._ren') and one theorem, a field a fact of the dump's own or the kernel's comparison; each contract: ONE APPLICATION.
-/
namespace Go.Proofs
open Go.Shelf
def Try.reversePt_ren : Go.Shelf.Ren := ⟨fun | 35 => 52 | n => n, fun | 22 => 86 | 23 => 60 | 3 => 3 | 4 => 4 | 0 => 0 | n => n, fun | n => n⟩
theorem Try.reversePt : Go.Proofs.SlLaysE0.n35 Try.prog Try.reversePt_ren := {
  mixed := by kernel_rfl
  f35 := ⟨Try.f52.name, by decide, Try.func52.trans (congrArg some (by kernel_rfl))⟩
  t0 := Try.underlying0
  a0 := Try.isAgg0
  z0 := Try.sizeOf0
  v0 := Try.zeroValue0
  t3 := Try.underlying3
  a3 := Try.isAgg3
  z3 := Try.sizeOf3
  v3 := Try.zeroValue3
  t4 := Try.underlying4
  a4 := Try.isAgg4
  z4 := Try.sizeOf4
  v4 := Try.zeroValue4
  t22 := Try.underlying86
  a22 := Try.isAgg86
  z22 := Try.sizeOf86
  v22 := Try.zeroValue86 }
def Try.reversePr_ren : Go.Shelf.Ren := ⟨fun | 35 => 55 | n => n, fun | 22 => 89 | 23 => 68 | 3 => 3 | 4 => 4 | 0 => 0 | n => n, fun | n => n⟩
theorem Try.reversePr : Go.Proofs.SlLaysE0.n35 Try.prog Try.reversePr_ren := {
  mixed := by kernel_rfl
  f35 := ⟨Try.f55.name, by decide, Try.func55.trans (congrArg some (by kernel_rfl))⟩
  t0 := Try.underlying0
  a0 := Try.isAgg0
  z0 := Try.sizeOf0
  v0 := Try.zeroValue0
  t3 := Try.underlying3
  a3 := Try.isAgg3
  z3 := Try.sizeOf3
  v3 := Try.zeroValue3
  t4 := Try.underlying4
  a4 := Try.isAgg4
  z4 := Try.sizeOf4
  v4 := Try.zeroValue4
  t22 := Try.underlying89
  a22 := Try.isAgg89
  z22 := Try.sizeOf89
  v22 := Try.zeroValue89 }
end Go.Proofs
