/- Texts joined: EnvF, EnvG, EnvH. -/
import Derived.Test.YtoonklpgfbjpcaaJ02
import Derived.Sort.LoopGhostIn
import Derived.OwnWalkIn
import Derived.TacticsInMore
import Derived.Sort.QuietTacIn
import Derived.Shelf.Abstract
import Derived.Shelf.RegionOpen
/- Contracts of the kids of a part, and of a pair of parts. -/
namespace Go.Proofs.Ytoonklpgfbjpcaa.EnvC
open Go Go.RowKit Go.Lib Go.Sort Go.Proofs.Ytoonklpgfbjpcaa.EnvP

/-- a part: where it lies, whether within a Box or a Ref, what it is -/
structure Pt where
  b : Nat
  o : Nat
  ins : Bool
  t : ETy
def Pt.cells (x : Pt) : List Value := [.pointer (some ⟨x.b, x.o, none⟩), .bool x.ins]
def adr : Value → Nat × Nat | .slice (some a) _ _ => (a.block, a.off) | _ => (0, 0)
def kidAt (v : Value) (i : Nat) : Nat × Nat := ((adr v).1, (adr v).2 + i * 5)
def Pt.kid (x : Pt) (i : Nat) (t : ETy) : Pt := ⟨(kidAt x.t.kv i).1, (kidAt x.t.kv i).2, x.ins || innerK x.t.kind, t⟩
def Pt.kids (x : Pt) : List Pt := x.t.kids.mapIdx x.kid
/-- a pair of parts -/
structure Pr where
  b : Nat
  o : Nat
  t : ETy
  c : Nat
  q : Nat
  u : ETy
def Pr.cells (x : Pr) : List Value := [.pointer (some ⟨x.b, x.o, none⟩), .pointer (some ⟨x.c, x.q, none⟩)]
def Pr.kid (x : Pr) (i : Nat) (p : ETy × ETy) : Pr := ⟨(kidAt x.t.kv i).1, (kidAt x.t.kv i).2, p.1, (kidAt x.u.kv i).1, (kidAt x.u.kv i).2, p.2⟩
def Pr.kids (x : Pr) : List Pr := (x.t.kids.zip x.u.kids).mapIdx x.kid

/-- a row whose first things hold these cells, two each -/
def Filled (xs : List Value) (ks : List (List Value)) (i : Nat) : Prop := ∀ j, j < i → ∀ c, ks[j]? = some c → ∀ k u, c[k]? = some u → xs[j * 2 + k]? = some u
theorem Filled.step {xs : List Value} {ks : List (List Value)} {i : Nat} (h : Filled xs ks i) {a b : Value} (hc : ks[i]? = some [a, b]) (h2 : ∀ c ∈ ks, c.length = 2) (hi : i * 2 + 2 ≤ xs.length) : Filled ((xs.set (i * 2) a).set (i * 2 + 1) b) ks (i + 1) := by
  intro j hj c hcj k u hk
  have hl : k < 2 := by
    have := h2 c (List.mem_of_getElem? hcj)
    have hk2 := (List.getElem?_eq_some_iff.1 hk).1
    omega
  rw [List.getElem?_set, List.getElem?_set]
  by_cases hji : j = i
  · subst hji
    rw [hc] at hcj
    cases hcj
    match k, hk, hl with
    | 0, hk, _ => cases hk; rw [if_neg (by omega), if_pos (by omega), if_pos (by omega)]
    | 1, hk, _ => cases hk; rw [if_pos rfl, if_pos (by rw [List.length_set]; omega)]
  · rw [if_neg (by omega), if_neg (by omega)]
    exact h j (by omega) c hcj k u hk
theorem filled_lies {w : World} {base : Nat} {e : TypeId} {g n cap : Nat} {xs : List Value} {ks : List (List Value)} (h : w.ownsRow base e 2 (.slice (some ⟨g, 0, none⟩) n cap) n xs) (hf : Filled xs ks n) (hn : ks.length = n) (h2 : ∀ c ∈ ks, c.length = 2) : Lies w 2 (.slice (some ⟨g, 0, none⟩) n cap) ks := by
  obtain ⟨h1, ⟨h3, _⟩ | ⟨g', cap', cur, h3, _, _, h5, _⟩⟩ := id h
  · cases h3
  injection h3 with e1 e2 e3
  subst e3
  refine ⟨_, _, by rw [hn], by rw [hn]; exact h5, fun _ => ⟨g, 0, rfl, fun i c hi j u hj => ?_⟩⟩
  have hlt : i < n := by rw [← hn]; exact (List.getElem?_eq_some_iff.1 hi).1
  have hjl : j < 2 := by
    have := h2 c (List.mem_of_getElem? hi)
    have hk2 := (List.getElem?_eq_some_iff.1 hj).1
    omega
  rw [Nat.zero_add]
  exact (h.cellAt _ (by omega)).trans (hf i hlt c hi j u hj)
theorem pt_info : (Try.prog.info? 60).map (fun i => (i.zero, i.size, i.bytes)) = some (some (.agg #[.pointer none, .bool false]), 2, 16) := by kernel_rfl
theorem pr_info : (Try.prog.info? 68).map (fun i => (i.zero, i.size, i.bytes)) = some (some (.agg #[.pointer none, .pointer none]), 2, 16) := by kernel_rfl

set_option maxHeartbeats 8000000 in
set_option maxRecDepth 100000 in
theorem kids_any (x : Pt) (w : World) (h : TyAt w x.b x.o x.t) (hs : Small x.t) :
    Calls Try.prog 38 #[.agg x.cells.toArray] w fun r w' => ∃ ad m c, r = .returned (.slice (some ad) m c) ∧ Lies w' 2 (.slice (some ad) m c) (x.kids.map Pt.cells) ∧ Below w.heap.size w w' := by
  obtain ⟨i0, hinf, hz0, hz1, hz2⟩ := info_parts pt_info
  have hsm := hs.kids
  obtain ⟨b, o, ins, t⟩ := x
  obtain ⟨k, m, g, lv, ls, kv, kids⟩ := t
  have h2 := h.2
  rw [ETy.In] at h2
  obtain ⟨q, d, hd, hq⟩ := lies_slice h2.2.2.1
  obtain ⟨p, d', e', _, hpo⟩ := h2.2.2.1
  rw [hq] at e'
  injection e' with e1 e2 e3
  subst e1 e3
  clear e2
  have hx := h.1
  dsimp only at hx hsm
  have B0 : Below w.heap.size w (w.alloc (.cells #[.pointer (some ⟨b, o, none⟩), .bool ins] 60 (0, 0))) := (Below.refl _ _).alloc (Nat.le_refl _) _
  have X0 : BoxAt (w.alloc (.cells #[.pointer (some ⟨b, o, none⟩), .bool ins] 60 (0, 0))) w.heap.size [.pointer (some ⟨b, o, none⟩), .bool ins] := BoxAt.new w _ _
  have y0 := later B0 (hx 0 (.int .i64 k) rfl)
  have y4 := later B0 (hx 4 kv rfl)
  rw [Nat.add_zero] at y0
  subst hq
  obtain ⟨KS, hKS⟩ : ∃ KS, (Pt.kids ⟨b, o, ins, .mk k m g lv ls (.slice q kids.length d) kids⟩).map Pt.cells = KS := ⟨_, rfl⟩
  rw [hKS]
  have hKl : KS.length = kids.length := by rw [← hKS, List.length_map]; unfold Pt.kids; rw [List.length_mapIdx]; rfl
  have hK2 : ∀ c ∈ KS, c.length = 2 := by intro c hc; rw [← hKS] at hc; obtain ⟨y, _, rfl⟩ := List.mem_map.1 hc; rfl
  obtain ⟨I, hI⟩ : ∃ I, (ins || innerK k) = I := ⟨_, rfl⟩
  have hKi : ∀ i, i < kids.length → ∃ kb ko, q = some ⟨kb, ko, none⟩ ∧ KS[i]? = some [.pointer (some ⟨kb, ko + i * 5, none⟩), .bool I] := fun i hi => by
    obtain ⟨kb, ko, e, _⟩ := hpo (by intro e; rw [List.map_eq_nil_iff] at e; rw [e] at hi; simp at hi)
    subst e
    refine ⟨kb, ko, rfl, ?_⟩
    rw [← hKS, List.getElem?_map]
    unfold Pt.kids
    rw [List.getElem?_mapIdx, show ETy.kids _ = kids from rfl, List.getElem?_eq_getElem hi]
    show some (Pt.cells _) = _
    rw [← hI]; rfl
  have hN := hsm.1
  change kids.length ≤ 1048576 at hN
  clear h h2 hs hsm hx hpo hKS
  generalize kids.length = N at *
  have HI := hid hI
  have HKi := hid hKi
  have HK2 := hid hK2
  have HKl := hid hKl
  have H0 := hid B0
  have HX := hid X0
  clear hI hKi hK2 hKl B0 X0
  unfold Pt.cells
  dsimp only
  have hcase : ins = true ∨ (ins = false ∧ k = 2) ∨ (ins = false ∧ k = 4) ∨ (ins = false ∧ (k == 2) = false ∧ (k == 4) = false) := by
    cases ins
    · by_cases h2 : k = 2
      · exact .inr (.inl ⟨rfl, h2⟩)
      · by_cases h4 : k = 4
        · exact .inr (.inr (.inl ⟨rfl, h4⟩))
        · exact .inr (.inr (.inr ⟨rfl, by simp [h2], by simp [h4]⟩))
    · exact .inl rfl
  have T3 : Hid (∀ c : Bool, (ins = true → c = true) → True) := hid fun _ _ => trivial
  rcases hcase with rfl | ⟨rfl, rfl⟩ | ⟨rfl, rfl⟩ | ⟨rfl, hk2, hk4⟩
  all_goals (
    have hI := HI.out
    first | rw [show (true || innerK k) = true from rfl] at hI | rw [show (false || innerK 2) = true from rfl] at hI | rw [show (false || innerK 4) = true from rfl] at hI | rw [show (false || innerK k) = false by unfold innerK; rw [hk2, hk4]; rfl] at hI
    subst hI
    clear HI T3
    go_enter Try.func38, Try.ntmps38
    go_wp2_with (at_make; go_loud (refine wpList_make_full _ rfl _ _ 86 rfl (w.heap.size + 1) 60 i0 (.agg #[.pointer none, .bool false]) 2 Try.underlying86 hinf hz0 hz1 .i64 .i64 _ _ N rfl rfl rfl rfl (by rw [hz2]; omega) (by unfold maxLen; omega) (by rw [World.size_alloc]; omega) ?_); intro w1 hown hgr)
    generalize hW0 : World.alloc w _ = W0 at *
    have hs0 : W0.heap.size = w.heap.size + 1 := by rw [← hW0]; simp
    rw [hs0] at hown
    have hb1 : Below (w.heap.size + 1) W0 w1 := (Below.refl _ _).grown hgr (by omega) (by simp)
    have HO := hid hown
    have HB := hid hb1
    have HS := hid hs0
    have x0 := HX.out 0 (.pointer (some ⟨b, o, none⟩)) rfl
    have hltb : b < w.heap.size + 1 := by rw [← hs0]; exact World.block_lt_of_cell? _ _ y4
    clear hown hb1 hs0 hW0 hgr
    go_loopg [33] N (fun gf u wx => ∃ (i : Nat) (xs : List Value), u = .int .i64 (i : Int) ∧ i ≤ N ∧ N ≤ i + gf ∧ Hid (wx.ownsRow (w.heap.size + 1) 60 2 (.slice (some ⟨w.heap.size + 1, 0, none⟩) N N) N xs) ∧ Hid (Filled xs KS i) ∧ Hid (Below (w.heap.size + 1) W0 wx))
    case atStart => exact ⟨0, _, rfl, by omega, by omega, HO, hid (fun j hj => by omega), HB⟩
    case round =>
      obtain ⟨i, xs, rfl, hi, hg, HOi, HF, HBi⟩ := hrel
      clear HO HB
      by_cases hlt : i < N
      · obtain ⟨kb, ko, rfl, hk⟩ := HKi.out i hlt
        have z0 := (HBi.out.cell (p := ⟨w.heap.size, 0, none⟩) (Nat.lt_succ_self _)).trans x0
        have z4 := (HBi.out.cell (p := ⟨b, o + 4, none⟩) hltb).trans y4
        have hxl : xs.length = N * 2 := HOi.out.1
        have f0 := HOi.out.frozenAt (i * 2)
        have f1 := HOi.out.frozenAt (i * 2 + 1)
        obtain ⟨v0, hv0⟩ : ∃ v, xs[i * 2]? = some v := ⟨xs[i * 2]'(by omega), List.getElem?_eq_getElem _⟩
        obtain ⟨v1, hv1⟩ : ∃ v, xs[i * 2 + 1]? = some v := ⟨xs[i * 2 + 1]'(by omega), List.getElem?_eq_getElem _⟩
        have c0 := (HOi.out.cellAt (i * 2) (by omega)).trans hv0
        have c1 := (HOi.out.cellAt (i * 2 + 1) (by omega)).trans hv1
        have HN : Hid (Filled ((xs.set (i * 2) (.pointer (some ⟨kb, ko + i * 5, none⟩))).set (i * 2 + 1) (.bool _)) KS (i + 1)) := hid (HF.out.step hk HK2.out (by omega))
        have HO2 := hid fun (I' : Bool) => (((HOi.out.stored (i * 2) (.pointer (some ⟨kb, ko + i * 5, none⟩))).1.stored (i * 2 + 1) (.bool I')).1)
        have HB2 := hid fun (I' : Bool) => ((HBi.out.setCell (p := ⟨w.heap.size + 1, i * 2, none⟩) (Nat.le_refl _) (.pointer (some ⟨kb, ko + i * 5, none⟩))).setCell (p := ⟨w.heap.size + 1, i * 2 + 1, none⟩) (Nat.le_refl _) (.bool I'))
        clear hv0 hv1 hk x0 y0 y4 HX hxl HKi HF
        go_wp2_with fail
        go_roundg (gk - 1)
        case measure => omega
        case rel => exact ⟨i + 1, _, by go_num, by omega, by omega, HO2.out _, HN, HB2.out _⟩
      · obtain rfl : i = N := by omega
        have hlies := filled_lies HOi.out HF.out HKl.out HK2.out
        have HL := hid hlies
        clear hlies HX x0 y0 y4
        go_wp2_with fail
        go_ret
        exact ⟨_, _, _, rfl, HL.out, H0.out.trans (HBi.out.mono (by omega))⟩
    )

set_option maxHeartbeats 8000000 in
set_option maxRecDepth 100000 in
theorem prKids_any (x : Pr) (w : World) (h : TyAt w x.b x.o x.t) (h' : TyAt w x.c x.q x.u) (hs : Small x.t) (hlen : x.t.kids.length = x.u.kids.length) :
    Calls Try.prog 43 #[.agg x.cells.toArray] w fun r w' => ∃ ad m c, r = .returned (.slice (some ad) m c) ∧ Lies w' 2 (.slice (some ad) m c) (x.kids.map Pr.cells) ∧ Below w.heap.size w w' := by
  obtain ⟨i0, hinf, hz0, hz1, hz2⟩ := info_parts pr_info
  have hsm := hs.kids
  obtain ⟨b, o, t, c, q, u⟩ := x
  obtain ⟨k, m, g, lv, ls, kv, kids⟩ := t
  obtain ⟨k', m', g', lv', ls', kv', kids'⟩ := u
  have h2 := h.2
  have h2' := h'.2
  rw [ETy.In] at h2 h2'
  obtain ⟨pa, da, hda, ha⟩ := lies_slice h2.2.2.1
  obtain ⟨pb, db, hdb, hb⟩ := lies_slice h2'.2.2.1
  obtain ⟨p1, d1, e1, _, hpo⟩ := h2.2.2.1
  obtain ⟨p2, d2, e2, _, hpo'⟩ := h2'.2.2.1
  rw [ha] at e1
  rw [hb] at e2
  injection e1 with e11 e12 e13
  injection e2 with e21 e22 e23
  subst e11 e13 e21 e23
  clear e12 e22
  have hx := h.1
  have hx' := h'.1
  change kids.length = kids'.length at hlen
  dsimp only at hx hx' hsm
  have B0 : Below w.heap.size w (w.alloc (.cells #[.pointer (some ⟨b, o, none⟩), .pointer (some ⟨c, q, none⟩)] 68 (0, 0))) := (Below.refl _ _).alloc (Nat.le_refl _) _
  have X0 : BoxAt (w.alloc (.cells #[.pointer (some ⟨b, o, none⟩), .pointer (some ⟨c, q, none⟩)] 68 (0, 0))) w.heap.size [.pointer (some ⟨b, o, none⟩), .pointer (some ⟨c, q, none⟩)] := BoxAt.new w _ _
  have y4 := later B0 (hx 4 kv rfl)
  have y4' := later B0 (hx' 4 kv' rfl)
  subst ha hb
  obtain ⟨KS, hKS⟩ : ∃ KS, (Pr.kids ⟨b, o, .mk k m g lv ls (.slice pa kids.length da) kids, c, q, .mk k' m' g' lv' ls' (.slice pb kids'.length db) kids'⟩).map Pr.cells = KS := ⟨_, rfl⟩
  rw [hKS]
  have hKl : KS.length = kids.length := by rw [← hKS, List.length_map]; unfold Pr.kids; rw [List.length_mapIdx, List.length_zip]; show min kids.length kids'.length = _; omega
  have hK2 : ∀ c ∈ KS, c.length = 2 := by intro c hc; rw [← hKS] at hc; obtain ⟨y, _, rfl⟩ := List.mem_map.1 hc; rfl
  have hKi : ∀ i, i < kids.length → ∃ kb ko kc kq, pa = some ⟨kb, ko, none⟩ ∧ pb = some ⟨kc, kq, none⟩ ∧ KS[i]? = some [.pointer (some ⟨kb, ko + i * 5, none⟩), .pointer (some ⟨kc, kq + i * 5, none⟩)] := fun i hi => by
    obtain ⟨kb, ko, e, _⟩ := hpo (by intro e; rw [List.map_eq_nil_iff] at e; rw [e] at hi; simp at hi)
    obtain ⟨kc, kq, e', _⟩ := hpo' (by intro e; rw [List.map_eq_nil_iff] at e; rw [hlen, e] at hi; simp at hi)
    subst e e'
    refine ⟨kb, ko, kc, kq, rfl, rfl, ?_⟩
    rw [← hKS, List.getElem?_map]
    unfold Pr.kids
    rw [List.getElem?_mapIdx]
    have e : (kids.zip kids')[i]? = some (kids[i], kids'[i]'(by omega)) := by rw [List.getElem?_eq_getElem (by rw [List.length_zip]; omega), List.getElem_zip]
    show Option.map Pr.cells (Option.map _ ((kids.zip kids')[i]?)) = _
    rw [e]
    rfl
  have hN := hsm.1
  change kids.length ≤ 1048576 at hN
  rw [← hlen] at y4'
  clear h h' h2 h2' hs hsm hx hx' hpo hpo' hKS
  rw [← hlen] at hdb
  generalize kids.length = N at *
  clear hlen
  have HKi := hid hKi
  have HK2 := hid hK2
  have HKl := hid hKl
  have H0 := hid B0
  have HX := hid X0
  clear hKi hK2 hKl B0 X0
  unfold Pr.cells
  dsimp only
  go_enter Try.func43, Try.ntmps43
  go_wp2_with (at_make; go_loud (refine wpList_make_full _ rfl _ _ 88 rfl (w.heap.size + 1) 68 i0 (.agg #[.pointer none, .pointer none]) 2 Try.underlying88 hinf hz0 hz1 .i64 .i64 _ _ N rfl rfl rfl rfl (by rw [hz2]; omega) (by unfold maxLen; omega) (by rw [World.size_alloc]; omega) ?_); intro w1 hown hgr)
  generalize hW0 : World.alloc w _ = W0 at *
  have hs0 : W0.heap.size = w.heap.size + 1 := by rw [← hW0]; simp
  rw [hs0] at hown
  have hb1 : Below (w.heap.size + 1) W0 w1 := (Below.refl _ _).grown hgr (by omega) (by simp)
  have HO := hid hown
  have HB := hid hb1
  have x0 := HX.out 0 (.pointer (some ⟨b, o, none⟩)) rfl
  have x1 := HX.out 1 (.pointer (some ⟨c, q, none⟩)) rfl
  have hltb : b < w.heap.size + 1 := by rw [← hs0]; exact World.block_lt_of_cell? _ _ y4
  have hltc : c < w.heap.size + 1 := by rw [← hs0]; exact World.block_lt_of_cell? _ _ y4'
  clear hown hb1 hs0 hW0 hgr
  go_loopg [14] N (fun gf u wx => ∃ (i : Nat) (xs : List Value), u = .int .i64 (i : Int) ∧ i ≤ N ∧ N ≤ i + gf ∧ Hid (wx.ownsRow (w.heap.size + 1) 68 2 (.slice (some ⟨w.heap.size + 1, 0, none⟩) N N) N xs) ∧ Hid (Filled xs KS i) ∧ Hid (Below (w.heap.size + 1) W0 wx))
  case atStart => exact ⟨0, _, rfl, by omega, by omega, HO, hid (fun j hj => by omega), HB⟩
  case round =>
    obtain ⟨i, xs, rfl, hi, hg, HOi, HF, HBi⟩ := hrel
    clear HO HB
    by_cases hlt : i < N
    · obtain ⟨kb, ko, kc, kq, rfl, rfl, hk⟩ := HKi.out i hlt
      have z0 := (HBi.out.cell (p := ⟨w.heap.size, 0, none⟩) (Nat.lt_succ_self _)).trans x0
      have z1 := (HBi.out.cell (p := ⟨w.heap.size, 1, none⟩) (Nat.lt_succ_self _)).trans x1
      have z4 := (HBi.out.cell (p := ⟨b, o + 4, none⟩) hltb).trans y4
      have z4' := (HBi.out.cell (p := ⟨c, q + 4, none⟩) hltc).trans y4'
      have hxl : xs.length = N * 2 := HOi.out.1
      have f0 := HOi.out.frozenAt (i * 2)
      have f1 := HOi.out.frozenAt (i * 2 + 1)
      obtain ⟨v0, hv0⟩ : ∃ v, xs[i * 2]? = some v := ⟨xs[i * 2]'(by omega), List.getElem?_eq_getElem _⟩
      obtain ⟨v1, hv1⟩ : ∃ v, xs[i * 2 + 1]? = some v := ⟨xs[i * 2 + 1]'(by omega), List.getElem?_eq_getElem _⟩
      have c0 := (HOi.out.cellAt (i * 2) (by omega)).trans hv0
      have c1 := (HOi.out.cellAt (i * 2 + 1) (by omega)).trans hv1
      have HN : Hid (Filled ((xs.set (i * 2) (.pointer (some ⟨kb, ko + i * 5, none⟩))).set (i * 2 + 1) (.pointer (some ⟨kc, kq + i * 5, none⟩))) KS (i + 1)) := hid (HF.out.step hk HK2.out (by omega))
      have HO2 := hid ((((HOi.out.stored (i * 2) (.pointer (some ⟨kb, ko + i * 5, none⟩))).1.stored (i * 2 + 1) (.pointer (some ⟨kc, kq + i * 5, none⟩))).1).drew)
      have HB2 := hid (((HBi.out.setCell (p := ⟨w.heap.size + 1, i * 2, none⟩) (Nat.le_refl _) (.pointer (some ⟨kb, ko + i * 5, none⟩))).setCell (p := ⟨w.heap.size + 1, i * 2 + 1, none⟩) (Nat.le_refl _) (.pointer (some ⟨kc, kq + i * 5, none⟩))).drew)
      clear hv0 hv1 hk x0 x1 y4 y4' HX hxl HKi HF
      go_wp2_with fail
      go_region
      go_wp2_with fail
      go_roundg (gk - 1)
      case measure => omega
      case rel => exact ⟨i + 1, _, by go_num, by omega, by omega, HO2, HN, HB2⟩
    · obtain rfl : i = N := by omega
      have hlies := filled_lies HOi.out HF.out HKl.out HK2.out
      have HL := hid hlies
      clear hlies HX x0 x1 y4 y4'
      go_wp2_with fail
      go_ret
      exact ⟨_, _, _, rfl, HL.out, H0.out.trans (HBi.out.mono (by omega))⟩
end Go.Proofs.Ytoonklpgfbjpcaa.EnvC
/- Contracts of walk's iterators: Walks, of parts and of pairs. -/
namespace Go.Proofs.Ytoonklpgfbjpcaa.EnvC
open Go Go.RowKit Go.Shelf Go.Lib Go.Sort Go.Proofs.Ytoonklpgfbjpcaa.EnvP
attribute [local go_sem] Oper.semAt_some

/-- things of two cells each, one behind the other -/
def flat {α : Type} (f : α → List Value) (l : List α) : List Value := l.flatMap f
theorem flat_len {α : Type} {f : α → List Value} (h : ∀ x, (f x).length = 2) : ∀ l : List α, (flat f l).length = l.length * 2
  | [] => rfl
  | x :: l => by
    have := flat_len h l
    unfold flat at *
    rw [List.flatMap_cons, List.length_append, this, h, List.length_cons]; omega
theorem flat_app {α : Type} (f : α → List Value) (l m : List α) : flat f (l ++ m) = flat f l ++ flat f m := by unfold flat; rw [List.flatMap_append]
theorem flat_last {α : Type} {f : α → List Value} (h : ∀ x, (f x).length = 2) (l : List α) (x : α) (j : Nat) (u : Value) (hj : (f x)[j]? = some u) : (flat f (l ++ [x]))[l.length * 2 + j]? = some u := by
  rw [flat_app, List.getElem?_append_right (by rw [flat_len h]; omega), flat_len h, show l.length * 2 + j - l.length * 2 = j by omega]
  unfold flat
  simpa using hj
theorem flat_split {α : Type} {f : α → List Value} (h : ∀ x, (f x).length = 2) : ∀ (l : List α) (j : Nat) (u : Value), (flat f l)[j]? = some u → ∃ x, l[j / 2]? = some x ∧ (f x)[j % 2]? = some u
  | [], j, u, hj => by simp [flat] at hj
  | x :: l, j, u, hj => by
    unfold flat at hj
    rw [List.flatMap_cons] at hj
    by_cases h2 : j < 2
    · rw [List.getElem?_append_left (by rw [h]; exact h2)] at hj
      exact ⟨x, by rw [Nat.div_eq_of_lt h2]; rfl, by rw [Nat.mod_eq_of_lt h2]; exact hj⟩
    · rw [List.getElem?_append_right (by rw [h]; omega), h] at hj
      obtain ⟨y, h3, h4⟩ := flat_split h l (j - 2) u hj
      refine ⟨y, ?_, ?_⟩
      · rw [show j / 2 = (j - 2) / 2 + 1 by omega]; simpa using h3
      · rw [show j % 2 = (j - 2) % 2 by omega]; exact h4
theorem flat_lies {α : Type} {f : α → List Value} (h : ∀ x, (f x).length = 2) {w : World} {ad : Addr} {m c : Nat} {l : List α} (hl : Lies w 2 (.slice (some ad) m c) (l.map f)) : ∀ (j : Nat) (u : Value), (flat f l)[j]? = some u → w.cell? (ad.add j) = some u := by
  intro j u hj
  obtain ⟨t, ht, hu⟩ := flat_split h l j u hj
  obtain ⟨p, cap, e, _, hp⟩ := hl
  obtain ⟨b, off, rfl, hc⟩ := hp (by intro e; simp at e; rw [e] at ht; simp at ht)
  injection e with e1 _ _
  injection e1 with e1
  subst e1
  have := hc (j / 2) (f t) (by rw [List.getElem?_map, ht]; rfl) (j % 2) u hu
  rw [show off + j / 2 * 2 + j % 2 = off + j by omega] at this
  rw [show (⟨b, off, none⟩ : Addr).add j = ⟨b, off + j, none⟩ by simp [Addr.add]]
  exact this
theorem own_zero {w : World} {base : Nat} {e : TypeId} {size : Nat} {v : Value} {xs : List Value} (h : w.ownsRow base e size v 0 xs) : ∃ p cap, v = .slice p 0 cap := by
  obtain ⟨_, ⟨rfl, _⟩ | ⟨g, cap, cur, rfl, _⟩⟩ := h
  · exact ⟨_, _, rfl⟩
  · exact ⟨_, _, rfl⟩
theorem own_some {w : World} {base : Nat} {e : TypeId} {size n : Nat} {v : Value} {xs : List Value} (h : w.ownsRow base e size v (n + 1) xs) : ∃ g cap, v = .slice (some ⟨g, 0, none⟩) (n + 1) cap ∧ base ≤ g ∧ g < w.heap.size ∧ n + 1 ≤ cap := by
  obtain ⟨_, ⟨_, h2⟩ | ⟨g, cap, cur, rfl, h3, h4, h5, _⟩⟩ := id h
  · omega
  · exact ⟨_, _, rfl, h3, (Array.getElem?_eq_some_iff.1 h4).1, h5⟩
theorem own_pop {w : World} {base : Nat} {e : TypeId} {size g n cap : Nat} {xs : List Value} (h : w.ownsRow base e size (.slice (some ⟨g, 0, none⟩) (n + 1) cap) (n + 1) xs) : w.ownsRow base e size (.slice (some ⟨g, 0, none⟩) n cap) n (xs.take (n * size)) := by
  obtain ⟨h1, ⟨h2, _⟩ | ⟨g', cap', cur, h2, h3, h4, h5, h6, h7, h8⟩⟩ := h
  · cases h2
  · injection h2 with e1 e2 e3
    injection e1 with e1
    injection e1 with e1 _ _
    subst e1 e3
    refine ⟨?_, .inr ⟨g, cap, cur, rfl, h3, h4, by omega, h6, h7, ?_⟩⟩
    · rw [List.length_take, h1, Nat.min_eq_left (Nat.mul_le_mul_right _ (by omega))]
    · rw [← h8, List.take_take, Nat.min_eq_left (Nat.mul_le_mul_right _ (by omega))]
theorem own_types {T U : TypeId} {w w' : World} {base size n : Nat} {v : Value} {xs : List Value} (h : w.ownsRow base T size v n xs) (k : TypesKept T U w w') : w'.ownsRow base T size v n xs := by
  obtain ⟨h1, h2 | ⟨g, cap, cur, h2, h3, h4, h5⟩⟩ := h
  · exact ⟨h1, .inl h2⟩
  · exact ⟨h1, .inr ⟨g, cap, cur, h2, h3, (k g cur (0, 0)).1 h4, h5⟩⟩
theorem own_below {w w' : World} {base : Nat} {e : TypeId} {size n : Nat} {v : Value} {xs : List Value} (h : w.ownsRow base e size v n xs) (k : Below w.heap.size w w') : w'.ownsRow base e size v n xs := by
  obtain ⟨h1, h2 | ⟨g, cap, cur, h2, h3, h4, h5⟩⟩ := h
  · exact ⟨h1, .inl h2⟩
  · exact ⟨h1, .inr ⟨g, cap, cur, h2, h3, (k.block g (Array.getElem?_eq_some_iff.1 h4).1).trans h4, h5⟩⟩
theorem own_block {w : World} {base : Nat} {e : TypeId} {size n : Nat} {v : Value} {xs : List Value} (h : w.ownsRow base e size v n xs) : ∀ r, v.ownBlock = some r → base ≤ r ∧ ∀ o, w.heap[r]? = some o → ∃ cs f, o = .cells cs e f := by
  intro r hr
  obtain ⟨h1, ⟨h2, _⟩ | ⟨g, cap, cur, h2, h3, h4, h5⟩⟩ := h
  · subst h2; simp [Value.ownBlock] at hr
  · subst h2
    simp [Value.ownBlock] at hr
    subst hr
    exact ⟨h3, fun o ho => ⟨cur, (0, 0), by rw [h4] at ho; exact (Option.some.inj ho).symm⟩⟩
theorem boxed_below {w w' : World} {B : Nat} {t : TypeId} {v : Value} (h : Boxed w B t v) (k : Below w.heap.size w w') : Boxed w' B t v := (k.block B h.lt).trans h

def Pt.Kids (W : World) (x : Pt) (ks : List Pt) : Prop := TyAt W x.b x.o x.t ∧ Small x.t ∧ ks = x.kids
def Pr.Kids (W : World) (x : Pr) (ks : List Pr) : Prop := TyAt W x.b x.o x.t ∧ TyAt W x.c x.q x.u ∧ Small x.t ∧ x.t.kids.length = x.u.kids.length ∧ ks = x.kids
def Pt.w (x : Pt) : Nat := nT x.t
def Pr.w (x : Pr) : Nat := nT x.t
def wAll {α : Type} (f : α → Nat) : List α → Nat | [] => 0 | x :: l => f x + wAll f l
theorem wAll_app {α : Type} (f : α → Nat) : ∀ l m : List α, wAll f (l ++ m) = wAll f l + wAll f m
  | [], m => by simp [wAll]
  | x :: l, m => by rw [List.cons_append, wAll, wAll, wAll_app f l m]; omega
theorem wAll_rev {α : Type} (f : α → Nat) : ∀ l : List α, wAll f l.reverse = wAll f l
  | [] => rfl
  | x :: l => by rw [List.reverse_cons, wAll_app, wAll_rev f l, wAll, wAll, wAll]; omega
theorem wAll_len {α : Type} (f : α → Nat) (h : ∀ x, 1 ≤ f x) : ∀ l : List α, l.length ≤ wAll f l
  | [] => by simp [wAll]
  | x :: l => by have := wAll_len f h l; have := h x; rw [wAll, List.length_cons]; omega
theorem wAll_mapIdx {α β : Type} (f : β → Nat) (e : α → Nat) : ∀ (l : List α) (g : Nat → α → β), (∀ i a, f (g i a) = e a) → wAll f (l.mapIdx g) = wAll e l
  | [], g, h => by simp [wAll]
  | x :: l, g, h => by rw [List.mapIdx_cons, wAll, wAll, h, wAll_mapIdx f e l _ (fun i a => h (i + 1) a)]
theorem wAll_ty : ∀ l : List ETy, wAll nT l = nTs l
  | [] => rfl
  | x :: l => by rw [wAll, nTs, wAll_ty l]
theorem wAll_zip (l m : List ETy) : wAll (fun p : ETy × ETy => nT p.1) (l.zip m) ≤ nTs l := by
  induction l generalizing m with
  | nil => simp [wAll]
  | cons x l ih =>
    cases m with
    | nil => simp [wAll]
    | cons y m => rw [List.zip_cons_cons, wAll, nTs]; have := ih m; dsimp only; omega
theorem Pt.kids_w (x : Pt) : wAll Pt.w x.kids + 1 ≤ x.w := by
  obtain ⟨b, o, i, ⟨k, m, g, lv, ls, kv, kids⟩⟩ := x
  have e := wAll_mapIdx Pt.w nT kids (Pt.kid ⟨b, o, i, .mk k m g lv ls kv kids⟩) (fun i a => rfl)
  show wAll Pt.w (kids.mapIdx _) + 1 ≤ nT _
  rw [e]
  rw [wAll_ty, nT]; omega
theorem Pr.kids_w (x : Pr) : wAll Pr.w x.kids + 1 ≤ x.w := by
  obtain ⟨b, o, ⟨k, m, g, lv, ls, kv, kids⟩, c, q, ⟨k', m', g', lv', ls', kv', kids'⟩⟩ := x
  have e := wAll_mapIdx Pr.w (fun p : ETy × ETy => nT p.1) (kids.zip kids') (Pr.kid ⟨b, o, .mk k m g lv ls kv kids, c, q, .mk k' m' g' lv' ls' kv' kids'⟩) (fun i a => rfl)
  show wAll Pr.w ((kids.zip kids').mapIdx _) + 1 ≤ nT _
  rw [e]
  have := wAll_zip kids kids'
  rw [nT]; omega
theorem Pt.Kids.keep {W W' : World} {x : Pt} {ks : List Pt} (h : Pt.Kids W x ks) (k : Keeps W W') : Pt.Kids W' x ks := ⟨h.1.keep k, h.2⟩
theorem Pr.Kids.keep {W W' : World} {x : Pr} {ks : List Pr} (h : Pr.Kids W x ks) (k : Keeps W W') : Pr.Kids W' x ks := ⟨h.1.keep k, h.2.1.keep k, h.2.2⟩
theorem CellsSame.keeps {A B : World} (h : CellsSame A B) : Keeps A B := fun b o u hc => by
  obtain ⟨ob, ho, hcs⟩ := cells_of_cell hc
  exact (World.cell?_of_block (w := A) (a := ⟨b, o, none⟩) ((h b ob ho hcs).trans ho.symm)).trans hc
theorem Pt.kidsCall {W : World} {x : Pt} {ks : List Pt} (h : Pt.Kids W x ks) : Calls Try.prog 38 #[.agg x.cells.toArray] W fun r w' => ∃ ad m c, r = .returned (.slice (some ad) m c) ∧ Lies w' 2 (.slice (some ad) m c) (ks.map Pt.cells) ∧ Below W.heap.size W w' := by
  rw [h.2.2]; exact kids_any x W h.1 h.2.1
theorem Pr.kidsCall {W : World} {x : Pr} {ks : List Pr} (h : Pr.Kids W x ks) : Calls Try.prog 43 #[.agg x.cells.toArray] W fun r w' => ∃ ad m c, r = .returned (.slice (some ad) m c) ∧ Lies w' 2 (.slice (some ad) m c) (ks.map Pr.cells) ∧ Below W.heap.size W w' := by
  rw [h.2.2.2.2]; exact prKids_any x W h.1 h.2.1 h.2.2.1 h.2.2.2.1
theorem Pt.two (x : Pt) : x.cells.length = 2 := rfl
theorem Pr.two (x : Pr) : x.cells.length = 2 := rfl
theorem Pt.ones (l : List Pt) : ∀ u ∈ flat Pt.cells l, u.oneCell' = true := by
  intro u hu
  obtain ⟨x, _, hx⟩ := List.mem_flatMap.1 hu
  unfold Pt.cells at hx
  simp at hx
  rcases hx with rfl | rfl <;> rfl
theorem Pr.ones (l : List Pr) : ∀ u ∈ flat Pr.cells l, u.oneCell' = true := by
  intro u hu
  obtain ⟨x, _, hx⟩ := List.mem_flatMap.1 hu
  unfold Pr.cells at hx
  simp at hx
  rcases hx with rfl | rfl <;> rfl
theorem Pt.w_pos (x : Pt) : 1 ≤ x.w := nT_ge _
theorem Pr.w_pos (x : Pr) : 1 ≤ x.w := nT_ge _

set_option maxHeartbeats 4000000 in
set_option maxRecDepth 100000 in
theorem walks_Pt (n : Nat) (hn3 : 3 ≤ n) (x0 : Pt) (B1 B2 : Nat) (w : World) (h1 : w.heap[B1]? = some (.cells x0.cells.toArray 60 (0, 0))) (h2 : Boxed w B2 72 (.func (.func 38) #[] #[])) (hw : x0.w ≤ 1048576) :
    Walks Fence.wide n Try.prog 51 #[.pointer (some ⟨B1, 0, none⟩), .pointer (some ⟨B2, 0, none⟩)] 60 72 Pt.cells Pt.Kids x0 w := by
  intro l J Jx W hW hJ hJx hY h0
  obtain ⟨i0, hi, hz0, hz1, hz2⟩ := info_parts pt_info
  have b1 : W.heap[B1]? = some (.cells x0.cells.toArray 60 (0, 0)) := (hW.block B1 (Array.getElem?_eq_some_iff.1 h1).1).trans h1
  have b2 : Boxed W B2 72 (.func (.func 38) #[] #[]) := (hW.block B2 h2.lt).trans h2
  clear h1 h2 hW
  refine callsIn_of_wp Try.func51 rfl trivial ?_ rfl
  simp only [Try.ntmps51, List.size_toArray, List.length_cons, List.length_nil, Nat.reduceAdd, Nat.reduceSub, Array.replicate_succ, Array.replicate_zero, List.push_toArray, List.append_toArray, List.nil_append, List.cons_append]
  have c0 : W.cell? ⟨B1, 0, none⟩ = some (.pointer (some ⟨x0.b, x0.o, none⟩)) := by rw [Lib.cell_of_heap b1]; rfl
  have c1 : W.cell? ⟨B1, 1, none⟩ = some (.bool x0.ins) := by rw [Lib.cell_of_heap b1]; rfl
  have hb1 : Below W.heap.size W (W.alloc (.cells x0.cells.toArray 60 (0, 0))) := (Below.refl _ _).alloc (Nat.le_refl _) _
  have O0 : Hid ((W.alloc (.cells x0.cells.toArray 60 (0, 0))).ownsRow W.heap.size 60 2 (.slice (some ⟨W.heap.size, 0, none⟩) 1 1) 1 (flat Pt.cells [x0])) := hid
    ⟨rfl, .inr ⟨W.heap.size, 1, _, rfl, Nat.le_refl _, heap_alloc_new _ _, Nat.le_refl _, by unfold maxLen; omega, rfl, rfl⟩⟩
  have J0 := hid (hJ _ _ _ h0 (Iter.of_below hb1))
  have X0 := hid (boxed_below b2 hb1)
  have HJ := hid hJ
  have HJx := hid hJx
  have HY := hid hY
  clear hJ hJx hY h0 b2 hb1 b1
  change Hid ((W.alloc (.cells #[.pointer (some ⟨x0.b, x0.o, none⟩), .bool x0.ins] 60 (0, 0))).ownsRow _ _ _ _ _ _) at O0
  change Hid (J [x0] (W.alloc (.cells #[.pointer (some ⟨x0.b, x0.o, none⟩), .bool x0.ins] 60 (0, 0)))) at J0
  change Hid (Boxed (W.alloc (.cells #[.pointer (some ⟨x0.b, x0.o, none⟩), .bool x0.ins] 60 (0, 0))) _ _ _) at X0
  gi_wp2
  generalize hV : World.alloc W _ = V at *
  have HS1 : Hid (W.heap.size ≤ V.heap.size) := hid (by rw [← hV]; simp)
  clear hV c0 c1
  gi_loopg [4] x0.w (fun gf u wr => ∃ st : List Pt, Hid (J st wr) ∧ Hid (wr.ownsRow W.heap.size 60 2 u st.length (flat Pt.cells st.reverse)) ∧ Hid (Boxed wr B2 72 (.func (.func 38) #[] #[])) ∧ Hid (W.heap.size ≤ wr.heap.size) ∧ wAll Pt.w st ≤ gf ∧ wAll Pt.w st ≤ 1048576)
  case atStart => exact ⟨[x0], J0, O0, X0, HS1, by simp [wAll], by simp [wAll]; exact hw⟩
  case round =>
    obtain ⟨st, hj, ho, hx, hs, hg, hm⟩ := hrel
    clear O0 J0 X0 HS1
    match st with
    | [] =>
      obtain ⟨p, cap, rfl⟩ := own_zero ho.out
      clear ho hx HJ HJx HY
      gi_wp2
      go_end0
      exact ⟨⟨_, rfl⟩, .inl hj.out⟩
    | x :: r =>
      have hlen : (x :: r).length = r.reverse.length + 1 := by simp
      have hO := ho.out
      rw [List.reverse_cons, hlen] at hO
      obtain ⟨g, cap, rfl, hg1, hg2, hnc⟩ := own_some hO
      have hc0 : wr.cell? ⟨g, r.reverse.length * 2, none⟩ = some (.pointer (some ⟨x.b, x.o, none⟩)) := (hO.cellAt _ (by omega)).trans (flat_last Pt.two r.reverse x 0 _ rfl)
      have hc1 : wr.cell? ⟨g, r.reverse.length * 2 + 1, none⟩ = some (.bool x.ins) := (hO.cellAt _ (by omega)).trans (flat_last Pt.two r.reverse x 1 _ rfl)
      have hP := own_pop hO
      rw [flat_app, List.take_append_of_le_length (by rw [flat_len Pt.two]; omega), List.take_of_length_le (by rw [flat_len Pt.two]; omega)] at hP
      have hrl := wAll_len Pt.w Pt.w_pos r
      have hwx := Pt.w_pos x
      rw [wAll] at hg hm
      have hn : r.reverse.length ≤ 1048576 := by simp; omega
      have HP := hid hP
      generalize hN : r.reverse.length = N at *
      have HN := hid hN
      have hb2 : Below wr.heap.size wr (wr.alloc (.cells #[.pointer (some ⟨x.b, x.o, none⟩), .bool x.ins] 60 (0, 0))) := (Below.refl _ _).alloc (Nat.le_refl _) _
      obtain ⟨fn, tmps, assign, body, hy, hR⟩ := HY.out x r _ (HJ.out _ _ _ hj.out (Iter.of_below hb2))
      change (Instr.yield l #[.agg #[.pointer (some ⟨x.b, x.o, none⟩), .bool x.ins]]).run _ _ = _ at hy
      have P2 := own_below HP.out hb2
      have X2 := boxed_below hx.out hb2
      have L2 := World.alloc_heap_new wr (.cells #[.pointer (some ⟨x.b, x.o, none⟩), .bool x.ins] 60 (0, 0))
      have HP2 := hid P2
      have HX2 := hid X2
      have HL2 := hid L2
      have HS2 := hid (Nat.le_trans hs.out hb2.size)
      clear hO ho hlen hrl hP hN HP hx hj P2 X2 L2 hb2 HY
      gi_wp2
      refine ⟨fun _ => by omega, ?_⟩
      refine hR.mono ?_
      generalize World.alloc wr _ = W2 at *
      rintro e W3 (⟨rfl, hk3, hsz3, ks, hks, hj3⟩ | ⟨rfl, hjx⟩)
      · have P3 := hid (own_types HP2.out hk3)
        have X3 := hid ((hk3 B2 _ (0, 0)).2 HX2.out)
        have L3 := (hk3 wr.heap.size _ (0, 0)).1 HL2.out
        have d0 : W3.cell? ⟨wr.heap.size, 0, none⟩ = some (.pointer (some ⟨x.b, x.o, none⟩)) := by rw [Lib.cell_of_heap L3]; rfl
        have d1 : W3.cell? ⟨wr.heap.size, 1, none⟩ = some (.bool x.ins) := by rw [Lib.cell_of_heap L3]; rfl
        have d2 : W3.cell? ⟨B2, 0, none⟩ = some (.func (.func 38) #[] #[]) := by rw [Lib.cell_of_heap X3.out]; rfl
        have CK : CallsIn Fence.wide (n - 1) Try.prog 38 #[.agg #[.pointer (some ⟨x.b, x.o, none⟩), .bool x.ins]] W3 fun e w' => ∃ ad m c, e = .returned (.slice (some ad) m c) ∧ Lies w' 2 (.slice (some ad) m c) (ks.map Pt.cells) ∧ Below W3.heap.size W3 w' := callsIn_wide.2 (Pt.kidsCall hks)
        have hkw : wAll Pt.w ks + 1 ≤ x.w := by
          have := Pt.kids_w x
          first | (rw [hks.2.2]; exact this) | (rw [hks.2.2.2.2]; exact this)
        have HJ3 := hid hj3
        have HCK := hid CK
        have HS3 := hid (Nat.le_trans HS2.out hsz3)
        clear hk3 hks hj3 L3 CK HP2 HX2 HL2 HS2 hy hR hc0 hc1
        gi_wp2
        refine ⟨trivial, fun _ => by omega, ?_⟩
        refine HCK.out.mono ?_
        rintro e W4 ⟨ad, m, c, rfl, hl4, hb4⟩
        have hm4 : m = ks.length := by
          obtain ⟨_, _, e, _⟩ := id hl4
          injection e with _ e _
          rw [e, List.length_map]
        subst hm4
        have P4 := hid (own_below P3.out hb4)
        have X4 := hid (boxed_below X3.out hb4)
        have J4 := hid (HJ.out _ _ _ HJ3.out (Iter.of_below hb4))
        have HS4 := hid (Nat.le_trans HS3.out hb4.size)
        have hfl := hid (flat_lies Pt.two hl4)
        have hkl := wAll_len Pt.w Pt.w_pos ks
        clear hl4 hb4 d0 d1 d2 P3 X3 HJ3 HCK HS3
        gi_wp2_with (gi_at_builtin; go_loud (refine wpListIn_append_own _ rfl _ _ 86 rfl W.heap.size 60 i0 (.agg #[.pointer none, .bool false]) 2 16 Try.underlying86 hi hz0 hz1 hz2 rfl (by decide) _ N (flat Pt.cells r.reverse) rfl P4.out ad ks.length c (flat Pt.cells ks) rfl (by rw [flat_len Pt.two]) hfl.out (Pt.ones ks) (by unfold maxLen; omega) (by omega) HS4.out ?_); intro v' W5 hown' hgrow hnil; clear hnil)
        have J5 := hid (HJ.out _ _ _ J4.out (Iter.grown hgrow (own_block P4.out)))
        have X5 : Hid (Boxed W5 B2 72 (.func (.func 38) #[] #[])) := hid (X4.out.kept hgrow (Boxed.not_row X4.out (by decide) P4.out))
        have O5 : Hid (W5.ownsRow W.heap.size 60 2 v' (ks.reverse ++ r).length (flat Pt.cells (ks.reverse ++ r).reverse)) := hid (by
          rw [List.reverse_append, List.reverse_reverse, flat_app, List.length_append, List.length_reverse, Nat.add_comm ks.length, show r.length = N by have := HN.out; rwa [List.length_reverse] at this]
          exact hown')
        have S5 := hid (Nat.le_trans HS4.out hgrow.size)
        clear hown' hgrow P4 X4 J4 hfl HS4
        gi_wp2
        gi_roundg (gk - 1)
        case measure => omega
        case rel => exact ⟨ks.reverse ++ r, J5, O5, X5, S5, by rw [wAll_app, wAll_rev]; omega, by rw [wAll_app, wAll_rev]; omega⟩
      · gi_wp2
        exact bodyPost_ret (results_none rfl _ _ _) rfl ⟨⟨_, rfl⟩, .inr hjx⟩
set_option maxHeartbeats 4000000 in
set_option maxRecDepth 100000 in
theorem walks_Pr (n : Nat) (hn3 : 3 ≤ n) (x0 : Pr) (B1 B2 : Nat) (w : World) (h1 : w.heap[B1]? = some (.cells x0.cells.toArray 68 (0, 0))) (h2 : Boxed w B2 77 (.func (.func 43) #[] #[])) (hw : x0.w ≤ 1048576) :
    Walks Fence.wide n Try.prog 53 #[.pointer (some ⟨B1, 0, none⟩), .pointer (some ⟨B2, 0, none⟩)] 68 77 Pr.cells Pr.Kids x0 w := by
  intro l J Jx W hW hJ hJx hY h0
  obtain ⟨i0, hi, hz0, hz1, hz2⟩ := info_parts pr_info
  have b1 : W.heap[B1]? = some (.cells x0.cells.toArray 68 (0, 0)) := (hW.block B1 (Array.getElem?_eq_some_iff.1 h1).1).trans h1
  have b2 : Boxed W B2 77 (.func (.func 43) #[] #[]) := (hW.block B2 h2.lt).trans h2
  clear h1 h2 hW
  refine callsIn_of_wp Try.func53 rfl trivial ?_ rfl
  simp only [Try.ntmps53, List.size_toArray, List.length_cons, List.length_nil, Nat.reduceAdd, Nat.reduceSub, Array.replicate_succ, Array.replicate_zero, List.push_toArray, List.append_toArray, List.nil_append, List.cons_append]
  have c0 : W.cell? ⟨B1, 0, none⟩ = some (.pointer (some ⟨x0.b, x0.o, none⟩)) := by rw [Lib.cell_of_heap b1]; rfl
  have c1 : W.cell? ⟨B1, 1, none⟩ = some (.pointer (some ⟨x0.c, x0.q, none⟩)) := by rw [Lib.cell_of_heap b1]; rfl
  have hb1 : Below W.heap.size W (W.alloc (.cells x0.cells.toArray 68 (0, 0))) := (Below.refl _ _).alloc (Nat.le_refl _) _
  have O0 : Hid ((W.alloc (.cells x0.cells.toArray 68 (0, 0))).ownsRow W.heap.size 68 2 (.slice (some ⟨W.heap.size, 0, none⟩) 1 1) 1 (flat Pr.cells [x0])) := hid
    ⟨rfl, .inr ⟨W.heap.size, 1, _, rfl, Nat.le_refl _, heap_alloc_new _ _, Nat.le_refl _, by unfold maxLen; omega, rfl, rfl⟩⟩
  have J0 := hid (hJ _ _ _ h0 (Iter.of_below hb1))
  have X0 := hid (boxed_below b2 hb1)
  have HJ := hid hJ
  have HJx := hid hJx
  have HY := hid hY
  clear hJ hJx hY h0 b2 hb1 b1
  change Hid ((W.alloc (.cells #[.pointer (some ⟨x0.b, x0.o, none⟩), .pointer (some ⟨x0.c, x0.q, none⟩)] 68 (0, 0))).ownsRow _ _ _ _ _ _) at O0
  change Hid (J [x0] (W.alloc (.cells #[.pointer (some ⟨x0.b, x0.o, none⟩), .pointer (some ⟨x0.c, x0.q, none⟩)] 68 (0, 0)))) at J0
  change Hid (Boxed (W.alloc (.cells #[.pointer (some ⟨x0.b, x0.o, none⟩), .pointer (some ⟨x0.c, x0.q, none⟩)] 68 (0, 0))) _ _ _) at X0
  gi_wp2
  generalize hV : World.alloc W _ = V at *
  have HS1 : Hid (W.heap.size ≤ V.heap.size) := hid (by rw [← hV]; simp)
  clear hV c0 c1
  gi_loopg [4] x0.w (fun gf u wr => ∃ st : List Pr, Hid (J st wr) ∧ Hid (wr.ownsRow W.heap.size 68 2 u st.length (flat Pr.cells st.reverse)) ∧ Hid (Boxed wr B2 77 (.func (.func 43) #[] #[])) ∧ Hid (W.heap.size ≤ wr.heap.size) ∧ wAll Pr.w st ≤ gf ∧ wAll Pr.w st ≤ 1048576)
  case atStart => exact ⟨[x0], J0, O0, X0, HS1, by simp [wAll], by simp [wAll]; exact hw⟩
  case round =>
    obtain ⟨st, hj, ho, hx, hs, hg, hm⟩ := hrel
    clear O0 J0 X0 HS1
    match st with
    | [] =>
      obtain ⟨p, cap, rfl⟩ := own_zero ho.out
      clear ho hx HJ HJx HY
      gi_wp2
      go_end0
      exact ⟨⟨_, rfl⟩, .inl hj.out⟩
    | x :: r =>
      have hlen : (x :: r).length = r.reverse.length + 1 := by simp
      have hO := ho.out
      rw [List.reverse_cons, hlen] at hO
      obtain ⟨g, cap, rfl, hg1, hg2, hnc⟩ := own_some hO
      have hc0 : wr.cell? ⟨g, r.reverse.length * 2, none⟩ = some (.pointer (some ⟨x.b, x.o, none⟩)) := (hO.cellAt _ (by omega)).trans (flat_last Pr.two r.reverse x 0 _ rfl)
      have hc1 : wr.cell? ⟨g, r.reverse.length * 2 + 1, none⟩ = some (.pointer (some ⟨x.c, x.q, none⟩)) := (hO.cellAt _ (by omega)).trans (flat_last Pr.two r.reverse x 1 _ rfl)
      have hP := own_pop hO
      rw [flat_app, List.take_append_of_le_length (by rw [flat_len Pr.two]; omega), List.take_of_length_le (by rw [flat_len Pr.two]; omega)] at hP
      have hrl := wAll_len Pr.w Pr.w_pos r
      have hwx := Pr.w_pos x
      rw [wAll] at hg hm
      have hn : r.reverse.length ≤ 1048576 := by simp; omega
      have HP := hid hP
      generalize hN : r.reverse.length = N at *
      have HN := hid hN
      have hb2 : Below wr.heap.size wr (wr.alloc (.cells #[.pointer (some ⟨x.b, x.o, none⟩), .pointer (some ⟨x.c, x.q, none⟩)] 68 (0, 0))) := (Below.refl _ _).alloc (Nat.le_refl _) _
      obtain ⟨fn, tmps, assign, body, hy, hR⟩ := HY.out x r _ (HJ.out _ _ _ hj.out (Iter.of_below hb2))
      change (Instr.yield l #[.agg #[.pointer (some ⟨x.b, x.o, none⟩), .pointer (some ⟨x.c, x.q, none⟩)]]).run _ _ = _ at hy
      have P2 := own_below HP.out hb2
      have X2 := boxed_below hx.out hb2
      have L2 := World.alloc_heap_new wr (.cells #[.pointer (some ⟨x.b, x.o, none⟩), .pointer (some ⟨x.c, x.q, none⟩)] 68 (0, 0))
      have HP2 := hid P2
      have HX2 := hid X2
      have HL2 := hid L2
      have HS2 := hid (Nat.le_trans hs.out hb2.size)
      clear hO ho hlen hrl hP hN HP hx hj P2 X2 L2 hb2 HY
      gi_wp2
      refine ⟨fun _ => by omega, ?_⟩
      refine hR.mono ?_
      generalize World.alloc wr _ = W2 at *
      rintro e W3 (⟨rfl, hk3, hsz3, ks, hks, hj3⟩ | ⟨rfl, hjx⟩)
      · have P3 := hid (own_types HP2.out hk3)
        have X3 := hid ((hk3 B2 _ (0, 0)).2 HX2.out)
        have L3 := (hk3 wr.heap.size _ (0, 0)).1 HL2.out
        have d0 : W3.cell? ⟨wr.heap.size, 0, none⟩ = some (.pointer (some ⟨x.b, x.o, none⟩)) := by rw [Lib.cell_of_heap L3]; rfl
        have d1 : W3.cell? ⟨wr.heap.size, 1, none⟩ = some (.pointer (some ⟨x.c, x.q, none⟩)) := by rw [Lib.cell_of_heap L3]; rfl
        have d2 : W3.cell? ⟨B2, 0, none⟩ = some (.func (.func 43) #[] #[]) := by rw [Lib.cell_of_heap X3.out]; rfl
        have CK : CallsIn Fence.wide (n - 1) Try.prog 43 #[.agg #[.pointer (some ⟨x.b, x.o, none⟩), .pointer (some ⟨x.c, x.q, none⟩)]] W3 fun e w' => ∃ ad m c, e = .returned (.slice (some ad) m c) ∧ Lies w' 2 (.slice (some ad) m c) (ks.map Pr.cells) ∧ Below W3.heap.size W3 w' := callsIn_wide.2 (Pr.kidsCall hks)
        have hkw : wAll Pr.w ks + 1 ≤ x.w := by
          have := Pr.kids_w x
          first | (rw [hks.2.2]; exact this) | (rw [hks.2.2.2.2]; exact this)
        have HJ3 := hid hj3
        have HCK := hid CK
        have HS3 := hid (Nat.le_trans HS2.out hsz3)
        clear hk3 hks hj3 L3 CK HP2 HX2 HL2 HS2 hy hR hc0 hc1
        gi_wp2
        refine ⟨trivial, fun _ => by omega, ?_⟩
        refine HCK.out.mono ?_
        rintro e W4 ⟨ad, m, c, rfl, hl4, hb4⟩
        have hm4 : m = ks.length := by
          obtain ⟨_, _, e, _⟩ := id hl4
          injection e with _ e _
          rw [e, List.length_map]
        subst hm4
        have P4 := hid (own_below P3.out hb4)
        have X4 := hid (boxed_below X3.out hb4)
        have J4 := hid (HJ.out _ _ _ HJ3.out (Iter.of_below hb4))
        have HS4 := hid (Nat.le_trans HS3.out hb4.size)
        have hfl := hid (flat_lies Pr.two hl4)
        have hkl := wAll_len Pr.w Pr.w_pos ks
        clear hl4 hb4 d0 d1 d2 P3 X3 HJ3 HCK HS3
        gi_wp2_with (gi_at_builtin; go_loud (refine wpListIn_append_own _ rfl _ _ 88 rfl W.heap.size 68 i0 (.agg #[.pointer none, .pointer none]) 2 16 Try.underlying88 hi hz0 hz1 hz2 rfl (by decide) _ N (flat Pr.cells r.reverse) rfl P4.out ad ks.length c (flat Pr.cells ks) rfl (by rw [flat_len Pr.two]) hfl.out (Pr.ones ks) (by unfold maxLen; omega) (by omega) HS4.out ?_); intro v' W5 hown' hgrow hnil; clear hnil)
        have J5 := hid (HJ.out _ _ _ J4.out (Iter.grown hgrow (own_block P4.out)))
        have X5 : Hid (Boxed W5 B2 77 (.func (.func 43) #[] #[])) := hid (X4.out.kept hgrow (Boxed.not_row X4.out (by decide) P4.out))
        have O5 : Hid (W5.ownsRow W.heap.size 68 2 v' (ks.reverse ++ r).length (flat Pr.cells (ks.reverse ++ r).reverse)) := hid (by
          rw [List.reverse_append, List.reverse_reverse, flat_app, List.length_append, List.length_reverse, Nat.add_comm ks.length, show r.length = N by have := HN.out; rwa [List.length_reverse] at this]
          exact hown')
        have S5 := hid (Nat.le_trans HS4.out hgrow.size)
        clear hown' hgrow P4 X4 J4 hfl HS4
        gi_wp2
        gi_roundg (gk - 1)
        case measure => omega
        case rel => exact ⟨ks.reverse ++ r, J5, O5, X5, S5, by rw [wAll_app, wAll_rev]; omega, by rw [wAll_app, wAll_rev]; omega⟩
      · gi_wp2
        exact bodyPost_ret (results_none rfl _ _ _) rfl ⟨⟨_, rfl⟩, .inr hjx⟩
end Go.Proofs.Ytoonklpgfbjpcaa.EnvC
/- Contracts of env.walk, env.parts, env.pairs: closures over two boxes. -/
namespace Go.Proofs.Ytoonklpgfbjpcaa.EnvC
open Go Go.RowKit Go.Shelf Go.Lib Go.Sort Go.Proofs.Ytoonklpgfbjpcaa.EnvP

set_option maxHeartbeats 1000000 in
theorem walk_Pt (x : Pt) (w : World) : Calls Try.prog 37 #[.agg #[.pointer (some ⟨x.b, x.o, none⟩), .bool x.ins], .func (.func 38) #[] #[]] w fun e w' => e = .returned (.func (.func 51) #[] #[.pointer (some ⟨w.heap.size, 0, none⟩), .pointer (some ⟨w.heap.size + 1, 0, none⟩)]) ∧
    Below w.heap.size w w' ∧ w'.heap[w.heap.size]? = some (.cells x.cells.toArray 60 (0, 0)) ∧ Boxed w' (w.heap.size + 1) 72 (.func (.func 38) #[] #[]) ∧ w'.heap.size = w.heap.size + 2 := by
  go_enter Try.func37, Try.ntmps37
  go_wp2_with fail
  go_ret
  refine ⟨rfl, ((Below.refl _ w).alloc (Nat.le_refl _) _).alloc (by simp) _, ?_, ?_, by simp⟩
  · exact (Below.heap_alloc _ _ _ (by simp)).trans (heap_alloc_new w _)
  · have := Boxed.new (w.alloc (.cells #[.pointer (some ⟨x.b, x.o, none⟩), .bool x.ins] 60 (0, 0))) 72 (.func (.func 38) #[] #[])
    rwa [World.size_alloc] at this
set_option maxHeartbeats 1000000 in
theorem all_Pt (x : Pt) (hi : x.ins = false) (w : World) : Calls Try.prog 26 #[.pointer (some ⟨x.b, x.o, none⟩)] w fun e w' => e = .returned (.func (.func 51) #[] #[.pointer (some ⟨w.heap.size, 0, none⟩), .pointer (some ⟨w.heap.size + 1, 0, none⟩)]) ∧
    Below w.heap.size w w' ∧ w'.heap[w.heap.size]? = some (.cells x.cells.toArray 60 (0, 0)) ∧ Boxed w' (w.heap.size + 1) 72 (.func (.func 38) #[] #[]) ∧ w'.heap.size = w.heap.size + 2 := by
  have c1 := hid (walk_Pt x w)
  rw [hi] at c1
  go_enter Try.func26, Try.ntmps26
  go_wp2_with fail
  with_reducible refine c1.out.mono ?_
  rintro e W ⟨rfl, h1, h2, h3, h4⟩
  go_wp2_with fail
  go_ret
  exact ⟨rfl, h1, h2, h3, h4⟩
set_option maxHeartbeats 1000000 in
theorem walk_Pr (x : Pr) (w : World) : Calls Try.prog 42 #[.agg #[.pointer (some ⟨x.b, x.o, none⟩), .pointer (some ⟨x.c, x.q, none⟩)], .func (.func 43) #[] #[]] w fun e w' => e = .returned (.func (.func 53) #[] #[.pointer (some ⟨w.heap.size, 0, none⟩), .pointer (some ⟨w.heap.size + 1, 0, none⟩)]) ∧
    Below w.heap.size w w' ∧ w'.heap[w.heap.size]? = some (.cells x.cells.toArray 68 (0, 0)) ∧ Boxed w' (w.heap.size + 1) 77 (.func (.func 43) #[] #[]) ∧ w'.heap.size = w.heap.size + 2 := by
  go_enter Try.func42, Try.ntmps42
  go_wp2_with fail
  go_ret
  refine ⟨rfl, ((Below.refl _ w).alloc (Nat.le_refl _) _).alloc (by simp) _, ?_, ?_, by simp⟩
  · exact (Below.heap_alloc _ _ _ (by simp)).trans (heap_alloc_new w _)
  · have := Boxed.new (w.alloc (.cells #[.pointer (some ⟨x.b, x.o, none⟩), .pointer (some ⟨x.c, x.q, none⟩)] 68 (0, 0))) 77 (.func (.func 43) #[] #[])
    rwa [World.size_alloc] at this
set_option maxHeartbeats 1000000 in
theorem all_Pr (x : Pr)  (w : World) : Calls Try.prog 30 #[.pointer (some ⟨x.b, x.o, none⟩), .pointer (some ⟨x.c, x.q, none⟩)] w fun e w' => e = .returned (.func (.func 53) #[] #[.pointer (some ⟨w.heap.size, 0, none⟩), .pointer (some ⟨w.heap.size + 1, 0, none⟩)]) ∧
    Below w.heap.size w w' ∧ w'.heap[w.heap.size]? = some (.cells x.cells.toArray 68 (0, 0)) ∧ Boxed w' (w.heap.size + 1) 77 (.func (.func 43) #[] #[]) ∧ w'.heap.size = w.heap.size + 2 := by
  have c1 := hid (walk_Pr x w)
  skip
  go_enter Try.func30, Try.ntmps30
  go_wp2_with fail
  with_reducible refine c1.out.mono ?_
  rintro e W ⟨rfl, h1, h2, h3, h4⟩
  go_wp2_with fail
  go_ret
  exact ⟨rfl, h1, h2, h3, h4⟩
end Go.Proofs.Ytoonklpgfbjpcaa.EnvC
