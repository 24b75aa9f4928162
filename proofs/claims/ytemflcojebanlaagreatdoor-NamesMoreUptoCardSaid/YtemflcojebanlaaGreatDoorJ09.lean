/- Texts joined: TreeTS, TreeTT0, TreeRF, TreeRG, TreeRH. -/
import Derived.Test.YtemflcojebanlaaGreatDoorJ08
import Derived.Test.YtemflcojebanlaaGreatDoorJ04
/- The gauge's block: worlds that are as they were but for it; a world without it. -/
namespace Go.Proofs.YtemflcojebanlaaGreatDoor.TreeC
open Go Go.RowKit Go.Lib Go.Sort LexP TreeP LexC

/-- the world with nothing in a block -/
def hush (gb : Nat) (w : World) : World := { w with heap := w.heap.modify gb fun _ => .cells #[] 0 (0, 0) }
theorem hush_other (gb : Nat) (w : World) (b : Nat) (h : b ≠ gb) : (hush gb w).heap[b]? = w.heap[b]? := by
 unfold hush
 simp only [Array.getElem?_modify]
 rw [if_neg (fun e => h e.symm)]
theorem hush_none (gb : Nat) (w : World) (o : Nat) : (hush gb w).cell? ⟨gb, o, none⟩ = none := by
 unfold World.cell? hush
 simp only [Array.getElem?_modify, if_true]
 cases w.heap[gb]? <;> simp
theorem hush_cell {gb : Nat} {w : World} {b o : Nat} {u : Value} (h : (hush gb w).cell? ⟨b, o, none⟩ = some u) : b ≠ gb := by
 rintro rfl
 rw [hush_none] at h
 cases h
theorem hush_keeps (gb : Nat) (w : World) : Keeps (hush gb w) w := fun b o u h => by
 have hb := hush_cell h
 rw [World.cell?_of_block (w' := hush gb w) (w := w) (a := ⟨b, o, none⟩) (hush_other gb w b hb)] at h
 exact h
theorem hush_in {gb : Nat} {w : World} {b o : Nat} {u : Value} (h : w.cell? ⟨b, o, none⟩ = some u) (hb : b ≠ gb) : (hush gb w).cell? ⟨b, o, none⟩ = some u :=
 (World.cell?_of_block (w' := hush gb w) (w := w) (a := ⟨b, o, none⟩) (hush_other gb w b hb)).trans h
/-- what was there ahead of the gauge -/
theorem hush_old {gb : Nat} {w0 w : World} (h : Below w0.heap.size w0 w) (hg : w0.heap.size ≤ gb) : Keeps w0 (hush gb w) := fun b o u hc => by
 have hlt : b < w0.heap.size := World.block_lt_of_cell? _ _ hc
 exact hush_in (Keeps.of_below h _ _ _ hc) (by omega)

/-- below B all is as it was, but for one block -/
structure BelowX (gb B : Nat) (w w' : World) : Prop where
 os : w'.os = w.os
 tape : w'.tape = w.tape
 output : w'.output = w.output
 size : w.heap.size ≤ w'.heap.size
 block : ∀ k, k < B → k ≠ gb → w'.heap[k]? = w.heap[k]?
theorem BelowX.of {gb B : Nat} {w w' : World} (h : Below B w w') : BelowX gb B w w' := ⟨h.os, h.tape, h.output, h.size, fun k hk _ => h.block k hk⟩
theorem BelowX.refl (gb B : Nat) (w : World) : BelowX gb B w w := .of (Below.refl _ _)
theorem BelowX.trans {gb B : Nat} {a b c : World} (h : BelowX gb B a b) (k : BelowX gb B b c) : BelowX gb B a c :=
 ⟨k.os.trans h.os, k.tape.trans h.tape, k.output.trans h.output, Nat.le_trans h.size k.size, fun i hi hn => (k.block i hi hn).trans (h.block i hi hn)⟩
theorem BelowX.mono {gb B B' : Nat} {w w' : World} (h : BelowX gb B w w') (hB : B' ≤ B) : BelowX gb B' w w' := ⟨h.os, h.tape, h.output, h.size, fun k hk => h.block k (Nat.lt_of_lt_of_le hk hB)⟩
theorem BelowX.then {gb B : Nat} {a w w' : World} (h : BelowX gb B a w) (k : Below B w w') : BelowX gb B a w' := h.trans (.of k)
theorem BelowX.gauge {gb B : Nat} {a w : World} (h : BelowX gb B a w) (o : Nat) (u : Value) : BelowX gb B a (w.setCell ⟨gb, o, none⟩ u) :=
 h.trans ⟨rfl, rfl, rfl, by simp [World.setCell], fun k _ hn => Below.heap_setCell _ _ _ _ hn⟩
theorem BelowX.keeps {gb : Nat} {w w' : World} (h : BelowX gb w.heap.size w w') : Keeps (hush gb w) (hush gb w') := fun b o u hc => by
 have hb := hush_cell hc
 have hc' := hush_keeps gb w _ _ _ hc
 have hlt : b < w.heap.size := World.block_lt_of_cell? _ _ hc'
 exact hush_in ((World.cell?_of_block (w := w) (a := ⟨b, o, none⟩) (h.block b hlt hb)).trans hc') hb
theorem BelowX.below {gb B : Nat} {w w' : World} (h : BelowX gb B w w') (hB : B ≤ gb) : Below B w w' := ⟨h.os, h.tape, h.output, h.size, fun k hk => h.block k hk (by omega)⟩
theorem BelowX.box {gb : Nat} {w w' : World} (h : BelowX gb w.heap.size w w') {b : Nat} {cs : List Value} (hx : BoxAt w b cs) (hb : b ≠ gb) : BoxAt w' b cs := fun j u hj => by
 have hc := hx j u hj
 exact (World.cell?_of_block (w := w) (a := ⟨b, j, none⟩) (h.block b (World.block_lt_of_cell? _ _ hc) hb)).trans hc
theorem BelowX.owns {gb : Nat} {w w' : World} (h : BelowX gb w.heap.size w w') {base : Nat} {e : TypeId} {size : Nat} {v : Value} {n : Nat} {xs : List Value} (ho : w.ownsRow base e size v n xs) (hg : gb < base) : w'.ownsRow base e size v n xs := by
 refine ⟨ho.1, ?_⟩
 rcases ho.2 with hn | ⟨g, cap, cur, rfl, hg1, hg2, rest⟩
 ·exact .inl hn
 ·refine .inr ⟨g, cap, cur, rfl, hg1, ?_, rest⟩
  rw [h.block g (Array.getElem?_eq_some_iff.1 hg2).1 (by omega)]
  exact hg2

/-- the gauge, as it lies in memory -/
def GaugeAt (w : World) (gb : Nat) (d lim : Nat) : Prop := w.heap[gb]? = some (.cells #[.int .i64 (d : Int), .int .i64 (lim : Int)] 119 (0, 0))
theorem GaugeAt.lt {w : World} {gb d lim : Nat} (h : GaugeAt w gb d lim) : gb < w.heap.size := (Array.getElem?_eq_some_iff.1 h).1
theorem GaugeAt.deepest {w : World} {gb d lim : Nat} (h : GaugeAt w gb d lim) : w.cell? ⟨gb, 0, none⟩ = some (.int .i64 (d : Int)) := by unfold World.cell?; rw [show w.heap[(⟨gb, 0, none⟩ : Addr).block]? = _ from h]; rfl
theorem GaugeAt.limit {w : World} {gb d lim : Nat} (h : GaugeAt w gb d lim) : w.cell? ⟨gb, 1, none⟩ = some (.int .i64 (lim : Int)) := by unfold World.cell?; rw [show w.heap[(⟨gb, 1, none⟩ : Addr).block]? = _ from h]; rfl
theorem GaugeAt.thawed {w : World} {gb d lim : Nat} (h : GaugeAt w gb d lim) (o : Nat) : w.frozen? ⟨gb, o, none⟩ = false := by unfold World.frozen?; rw [show w.heap[(⟨gb, o, none⟩ : Addr).block]? = _ from h]; simp
theorem GaugeAt.below {w w' : World} {gb d lim : Nat} (h : GaugeAt w gb d lim) {B : Nat} (hb : Below B w w') (hB : gb < B) : GaugeAt w' gb d lim := (hb.block gb hB).trans h
theorem GaugeAt.set {w : World} {gb d lim : Nat} (h : GaugeAt w gb d lim) (e : Nat) : GaugeAt (w.setCell ⟨gb, 0, none⟩ (.int .i64 (e : Int))) gb e lim := by
 unfold GaugeAt World.setCell at *
 simp only [Array.getElem?_modify, if_true, h]
 rfl
theorem GaugeAt.new (w : World) (lim : Nat) : GaugeAt (w.alloc (.cells #[.int .i64 0, .int .i64 (lim : Int)] 119 (0, 0))) w.heap.size 0 lim := heap_alloc_new _ _
/- What is in a statement, as plain shelves; the relation that tree.sound keeps to the gauge. No program. -/

/-- what is in a statement that stands at a level -/
def inS (s : St) (n : Nat) : List (Shelf St) := match s with
 | .mk _ _ _ _ tv thn ev els => [⟨n + 1, tv, thn⟩, ⟨n + 1, ev, els⟩]
/-- how deep its own expressions are -/
def exS (s : St) (n : Nat) : Nat := match s with
 | .mk _ _ place expr _ _ _ _ => n + 1 + max (deepE place) (deepE expr)
mutual
def nS : St → Nat | .mk _ _ _ _ _ thn _ els => 2 + nSs thn + nSs els
def nSs : List St → Nat | [] => 0 | x :: xs => nS x + nSs xs
end
theorem wAll_st : ∀ l : List St, wAll nS l = nSs l
 | [] => rfl
 | x :: xs => by rw [wAll, nSs, wAll_st xs]
mutual
theorem nS_le : ∀ x : St, nS x ≤ wS x
 | .mk k n p e tv thn ev els => by have := nSs_le thn; have := nSs_le els; rw [nS, wS]; omega
theorem nSs_le : ∀ l : List St, nSs l ≤ wSs l
 | [] => by rw [nSs, wSs]; exact Nat.le_refl _
 | x :: xs => by have h := nS_le x; have k := nSs_le xs; rw [nSs, wSs]; omega
end
theorem inS_w (x : St) (n : Nat) : wSh nS (inS x n) ≤ nS x := by
 obtain ⟨k, name, p, e, tv, thn, ev, els⟩ := x
 unfold inS
 rw [nS]
 simp only [wSh, wAll_st]
 omega
theorem deepAt_st (n : Nat) : ∀ l : List St, deepAt deepS n l = max n (n + deepSs l)
 | [] => by simp [deepAt, deepSs]
 | x :: xs => by rw [deepAt, deepSs, deepAt_st n xs]; omega
theorem inS_law (x : St) (n : Nat) : max n (max (exS x n) (deepSh deepS (inS x n))) = n + deepS x := by
 obtain ⟨k, name, p, e, tv, thn, ev, els⟩ := x
 unfold inS exS
 rw [deepS]
 simp only [deepSh, deepAt_st]
 omega
theorem inT_law' (t : Ty) (n : Nat) : max n (max 0 (deepSh deepT (inT t n))) = n + deepT t := by rw [← inT_law t n]; omega
theorem inE_law' (x : Ex) (n : Nat) : max n (max 0 (deepSh deepE (inE x n))) = n + deepE x := by rw [← inE_law x n]; omega
/-- the gauge shows what it must: Capped, of the greater of what it shows and what is still to be seen -/
theorem capped_pop {α : Type} {dp : α → Nat} {lim d D : Nat} {rest : List (Shelf α)} {s : Shelf α} (h : Capped lim (max d (deepSh dp (rest ++ [s]))) D) :
  Capped lim (max (max d s.level) (max (deepSh dp rest) (deepAt dp s.level s.list))) D := by
 have e : max d (deepSh dp (rest ++ [s])) = max (max d s.level) (max (deepSh dp rest) (deepAt dp s.level s.list)) := by
  have := deepAt_le dp s.level s.list
  rw [deepSh_app]
  simp only [deepSh]
  omega
 rw [e] at h
 exact h
/-- one thing of a shelf is looked into: what it shows the gauge, what is in it, and what is still to be seen of the shelf -/
theorem capped_open {α : Type} {dp : α → Nat} {inn : α → Nat → List (Shelf α)} {ex : α → Nat → Nat} {lim d d' D n : Nat} {work : List (Shelf α)} {x : α} {l : List α}
  (law : ∀ x n, max n (max (ex x n) (deepSh dp (inn x n))) = n + dp x) (hn : n ≤ d)
  (h : Capped lim (max d (max (deepSh dp work) (deepAt dp n (x :: l)))) D) (hd : Capped lim d' (max d (ex x n))) (hle : d ≤ d') :
  Capped lim (max d' (max (deepSh dp (work ++ inn x n)) (deepAt dp n l))) D := by
 have k := law x n
 have m := deepAt_le dp n l
 rw [deepAt] at h
 rw [deepSh_app]
 unfold Capped at *
 omega
theorem capped_end {α : Type} {dp : α → Nat} {lim d D n : Nat} {work : List (Shelf α)} (hn : n ≤ d) (h : Capped lim (max d (max (deepSh dp work) (deepAt dp n []))) D) :
  Capped lim (max d (deepSh dp work)) D := by
 rw [deepAt] at h
 rw [show max d (max (deepSh dp work) n) = max d (deepSh dp work) by omega] at h
 exact h
theorem capped_done {lim d e D : Nat} (hd : lim < d) (h : Capped lim (max d e) D) : Capped lim d D := by
 unfold Capped at *
 omega
/- Contracts of lienbookref02's sizes of types and expressions. -/

mutual
theorem sizeT_le : ∀ t : Ty, sizeT t ≤ wT t
 | .mk k life mt v kids => by
  have := sizeTs_le (1 + life.size / 100) kids
  rw [sizeT, wT]
  have : life.size / 100 ≤ life.size := Nat.div_le_self _ _
  omega
theorem sizeTs_le : ∀ (n : Nat) (l : List Ty), sizeTs n l ≤ n + wTs l
 | n, [] => by simp [sizeTs]
 | n, t :: ts => by
  have h1 := sizeT_le t
  have h2 := sizeTs_le (n + sizeT t) ts
  rw [sizeTs, wTs]
  split <;> omega
end
mutual
theorem sizeE_le : ∀ t : Ex, sizeE t ≤ wE t
 | .mk k num name mt v kids => by
  have := sizeEs_le (1 + name.size / 100) kids
  rw [sizeE, wE]
  have : name.size / 100 ≤ name.size := Nat.div_le_self _ _
  omega
theorem sizeEs_le : ∀ (n : Nat) (l : List Ex), sizeEs n l ≤ n + wEs l
 | n, [] => by simp [sizeEs]
 | n, t :: ts => by
  have h1 := sizeE_le t
  have h2 := sizeEs_le (n + sizeE t) ts
  rw [sizeEs, wEs]
  split <;> omega
end

set_option maxHeartbeats 4000000 in
set_option maxRecDepth 100000 in
theorem rsizeT_any : ∀ (n : Nat) (t : Ty) (w : World), wT t ≤ n → n ≤ 1048576 → t.In w → Calls Tryz.prog 15 #[t.val] w fun r w' => r = .returned (.int .i64 (sizeT t : Int)) ∧ Below w.heap.size w w' := by
 intro n
 induction n with
 | zero => intro t w h; obtain ⟨k, life, mt, v, kids⟩ := t; rw [wT] at h; omega
 | succ n ih =>
  intro t w hw hn hin
  obtain ⟨k, life, mt, v, kids⟩ := t
  have hsz := sizeT_le (.mk k life mt v kids)
  rw [wT] at hw hsz
  rw [Ty.In] at hin
  obtain hin := hin
  obtain ⟨hl, hk⟩ := hin
  have hlen := wTs_len kids
  obtain ⟨R, hR⟩ : ∃ R, sizeT (.mk k life mt v kids) = R := ⟨_, rfl⟩
  rw [hR] at hsz ⊢
  rw [sizeT] at hR
  have yk : (.mk k life mt v kids : Ty).cells[3]? = some v := rfl
  have yn : (.mk k life mt v kids : Ty).cells[1]? = some (.string life) := rfl
  rw [Ty.val]
  generalize (.mk k life mt v kids : Ty).cells = cs at *
  have hl' := hl
  obtain ⟨p, cap, rfl, hcap, hx⟩ := hl
  rw [List.length_map] at *
  generalize hL : kids.length = L at *
  have hd : life.size / 100 ≤ life.size := Nat.div_le_self _ _
  have hdi : ((life.size : Int)) / 100 = ((life.size / 100 : Nat) : Int) := by omega
  generalize hD : life.size / 100 = D at *
  have HD := hid hdi
  have HS := hid hR
  have HL := hid hL
  have HK := hid hk
  have HX := hid hl'
  have YK := hid yk
  have YN := hid yn
  clear hx hk hL hl' hR yk yn hdi hD
  have B0 : Below w.heap.size w (w.alloc (.cells cs.toArray 34 (0, 0))) := (Below.refl _ _).alloc (Nat.le_refl _) _
  have X0 : BoxAt (w.alloc (.cells cs.toArray 34 (0, 0))) w.heap.size cs := BoxAt.new _ _ _
  have d1 := box_get X0 YN.out
  have X0 := hid X0
  have B0 := hid B0
  go_enter Tryz.func15, Tryz.ntmps15
  go_wp2_with fail
  have X0 := X0.out
  generalize w.alloc _ = W1 at *
  have X0 := hid X0
  go_loopg [3, 4] L (fun gf u v wx => ∃ i a : Nat, u = .int .i64 (a : Int) ∧ v = .int .i64 (i : Int) ∧ i ≤ L ∧ L ≤ i + gf ∧ a ≤ 2097152 ∧ Hid (sizeTs a (kids.drop i) = R) ∧ Hid (Below W1.heap.size W1 wx))
  case atStart => exact ⟨0, 1 + D, by rw [HD.out]; go_num, rfl, by omega, by omega, by omega, hid (by rw [List.drop_zero]; exact HS.out), hid (Below.refl _ _)⟩
  case round =>
   obtain ⟨i, a, rfl, rfl, hi, hg, ha, HA, HB⟩ := hrel
   have hbw := hid (B0.out.trans (HB.out.mono B0.out.size))
   have XR := hid (X0.out.later HB.out)
   have d3 := box_get XR.out YK.out
   clear d1
   by_cases hlt : i < L
   ·by_cases h4 : a ≤ 400
    ·obtain ⟨t', ht⟩ : ∃ t', kids[i]? = some t' := ⟨kids[i]'(by rw [HL.out]; exact hlt), List.getElem?_eq_getElem _⟩
     obtain ⟨b, off, cap', e, _, hx⟩ := Lies.at (HX.out.keep (Keeps.of_below hbw.out)) (i := i) (by rw [List.length_map, HL.out]; exact hlt)
     injection e with e1 e2 e3
     subst e1
     clear e2 e3
     have hx' : ∀ (j : Nat) (u : Value), t'.cells[j]? = some u → wr.cell? ⟨b, off + i * 4 + j, none⟩ = some u := hx i t'.cells (by rw [List.getElem?_map, ht]; rfl)
     have hin' : t'.In wr := Ty.In.keep (Keeps.of_below hbw.out) t' ((Ty.ins_iff w kids).1 HK.out t' (List.mem_of_getElem? ht))
     have hws := wTs_get kids i t' ht
     have hle := sizeT_le t'
     have K : Hid (sizeTs (a + sizeT t') (kids.drop (i + 1)) = R) := hid (by rw [← HA.out, drop_cons ht, sizeTs, if_neg (by omega)])
     have HZ := hid (tySize t')
     have cI := ih t' wr (by omega) (by omega) hin'
     rw [Ty.val] at cI
     have CI := hid cI
     clear cI
     have HC := hid hx'
     clear hx hx' ht hin' ih
     generalize sizeT t' = q at *
     go_wp2_with (with_reducible refine wpList_load_at (o := ⟨some 26, _, _, _, _, _⟩) rfl _ _ rfl b (off + i * 4) rfl t'.cells _ HC.out Tryz.underlying34 rfl HZ.out ?_)
     with_reducible refine CI.out.mono ?_
     rintro e W2 ⟨rfl, hb2⟩
     have H2 := hid hb2
     clear hb2
     go_wp2_with fail
     go_roundg (gk - 1)
     case measure => omega
     case rel => exact ⟨i + 1, a + q, by go_num, by go_num, by omega, by omega, by omega, K, hid (HB.out.trans (H2.out.mono HB.out.size))⟩
    ·have K : Hid (a = R) := hid (by
      rw [← HA.out]
      obtain ⟨t', ht⟩ : ∃ t', kids[i]? = some t' := ⟨kids[i]'(by rw [HL.out]; exact hlt), List.getElem?_eq_getElem _⟩
      rw [drop_cons ht, sizeTs, if_pos (by omega)])
     clear ih
     go_wp2_with fail
     go_ret
     exact ⟨ret_nat K.out, hbw.out⟩
   ·obtain rfl : i = L := by omega
    have K : Hid (a = R) := hid (by rw [← HA.out, ← HL.out, List.drop_length, sizeTs])
    clear ih
    go_wp2_with fail
    go_ret
    exact ⟨ret_nat K.out, hbw.out⟩
set_option maxHeartbeats 4000000 in
set_option maxRecDepth 100000 in
theorem rsizeE_any : ∀ (n : Nat) (t : Ex) (w : World), wE t ≤ n → n ≤ 1048576 → t.In w → Calls Tryz.prog 17 #[t.val] w fun r w' => r = .returned (.int .i64 (sizeE t : Int)) ∧ Below w.heap.size w w' := by
 intro n
 induction n with
 | zero => intro t w h; obtain ⟨k, num, name, mt, v, kids⟩ := t; rw [wE] at h; omega
 | succ n ih =>
  intro t w hw hn hin
  obtain ⟨k, num, name, mt, v, kids⟩ := t
  have hsz := sizeE_le (.mk k num name mt v kids)
  rw [wE] at hw hsz
  rw [Ex.In] at hin
  obtain ⟨_, hin⟩ := hin
  obtain ⟨hl, hk⟩ := hin
  have hlen := wEs_len kids
  obtain ⟨R, hR⟩ : ∃ R, sizeE (.mk k num name mt v kids) = R := ⟨_, rfl⟩
  rw [hR] at hsz ⊢
  rw [sizeE] at hR
  have yk : (.mk k num name mt v kids : Ex).cells[4]? = some v := rfl
  have yn : (.mk k num name mt v kids : Ex).cells[2]? = some (.string name) := rfl
  rw [Ex.val]
  generalize (.mk k num name mt v kids : Ex).cells = cs at *
  have hl' := hl
  obtain ⟨p, cap, rfl, hcap, hx⟩ := hl
  rw [List.length_map] at *
  generalize hL : kids.length = L at *
  have hd : name.size / 100 ≤ name.size := Nat.div_le_self _ _
  have hdi : ((name.size : Int)) / 100 = ((name.size / 100 : Nat) : Int) := by omega
  generalize hD : name.size / 100 = D at *
  have HD := hid hdi
  have HS := hid hR
  have HL := hid hL
  have HK := hid hk
  have HX := hid hl'
  have YK := hid yk
  have YN := hid yn
  clear hx hk hL hl' hR yk yn hdi hD
  have B0 : Below w.heap.size w (w.alloc (.cells cs.toArray 40 (0, 0))) := (Below.refl _ _).alloc (Nat.le_refl _) _
  have X0 : BoxAt (w.alloc (.cells cs.toArray 40 (0, 0))) w.heap.size cs := BoxAt.new _ _ _
  have d1 := box_get X0 YN.out
  have X0 := hid X0
  have B0 := hid B0
  go_enter Tryz.func17, Tryz.ntmps17
  go_wp2_with fail
  have X0 := X0.out
  generalize w.alloc _ = W1 at *
  have X0 := hid X0
  go_loopg [3, 4] L (fun gf u v wx => ∃ i a : Nat, u = .int .i64 (a : Int) ∧ v = .int .i64 (i : Int) ∧ i ≤ L ∧ L ≤ i + gf ∧ a ≤ 2097152 ∧ Hid (sizeEs a (kids.drop i) = R) ∧ Hid (Below W1.heap.size W1 wx))
  case atStart => exact ⟨0, 1 + D, by rw [HD.out]; go_num, rfl, by omega, by omega, by omega, hid (by rw [List.drop_zero]; exact HS.out), hid (Below.refl _ _)⟩
  case round =>
   obtain ⟨i, a, rfl, rfl, hi, hg, ha, HA, HB⟩ := hrel
   have hbw := hid (B0.out.trans (HB.out.mono B0.out.size))
   have XR := hid (X0.out.later HB.out)
   have d3 := box_get XR.out YK.out
   clear d1
   by_cases hlt : i < L
   ·by_cases h4 : a ≤ 400
    ·obtain ⟨t', ht⟩ : ∃ t', kids[i]? = some t' := ⟨kids[i]'(by rw [HL.out]; exact hlt), List.getElem?_eq_getElem _⟩
     obtain ⟨b, off, cap', e, _, hx⟩ := Lies.at (HX.out.keep (Keeps.of_below hbw.out)) (i := i) (by rw [List.length_map, HL.out]; exact hlt)
     injection e with e1 e2 e3
     subst e1
     clear e2 e3
     have hx' : ∀ (j : Nat) (u : Value), t'.cells[j]? = some u → wr.cell? ⟨b, off + i * 5 + j, none⟩ = some u := hx i t'.cells (by rw [List.getElem?_map, ht]; rfl)
     have hin' : t'.In wr := Ex.In.keep (Keeps.of_below hbw.out) t' ((Ex.ins_iff w kids).1 HK.out t' (List.mem_of_getElem? ht))
     have hws := wEs_get kids i t' ht
     have hle := sizeE_le t'
     have K : Hid (sizeEs (a + sizeE t') (kids.drop (i + 1)) = R) := hid (by rw [← HA.out, drop_cons ht, sizeEs, if_neg (by omega)])
     have HZ := hid (exSize t')
     have cI := ih t' wr (by omega) (by omega) hin'
     rw [Ex.val] at cI
     have CI := hid cI
     clear cI
     have HC := hid hx'
     clear hx hx' ht hin' ih
     generalize sizeE t' = q at *
     go_wp2_with (with_reducible refine wpList_load_at (o := ⟨some 26, _, _, _, _, _⟩) rfl _ _ rfl b (off + i * 5) rfl t'.cells _ HC.out Tryz.underlying40 rfl HZ.out ?_)
     with_reducible refine CI.out.mono ?_
     rintro e W2 ⟨rfl, hb2⟩
     have H2 := hid hb2
     clear hb2
     go_wp2_with fail
     go_roundg (gk - 1)
     case measure => omega
     case rel => exact ⟨i + 1, a + q, by go_num, by go_num, by omega, by omega, by omega, K, hid (HB.out.trans (H2.out.mono HB.out.size))⟩
    ·have K : Hid (a = R) := hid (by
      rw [← HA.out]
      obtain ⟨t', ht⟩ : ∃ t', kids[i]? = some t' := ⟨kids[i]'(by rw [HL.out]; exact hlt), List.getElem?_eq_getElem _⟩
      rw [drop_cons ht, sizeEs, if_pos (by omega)])
     clear ih
     go_wp2_with fail
     go_ret
     exact ⟨ret_nat K.out, hbw.out⟩
   ·obtain rfl : i = L := by omega
    have K : Hid (a = R) := hid (by rw [← HA.out, ← HL.out, List.drop_length, sizeEs])
    clear ih
    go_wp2_with fail
    go_ret
    exact ⟨ret_nat K.out, hbw.out⟩
/- Contract of lienbookref02.sizeStmts. -/

mutual
theorem sizeS_le : ∀ s : St, sizeS s ≤ wS s
 | .mk k name place expr tv thn ev els => by
  have h1 := sizeSs_le 0 thn
  have h2 := sizeSs_le 0 els
  have h3 := sizeE_le place
  have h4 := sizeE_le expr
  have h5 : name.size / 100 ≤ name.size := Nat.div_le_self _ _
  rw [sizeS, wS]
  omega
theorem sizeSs_le : ∀ (n : Nat) (l : List St), sizeSs n l ≤ n + wSs l
 | n, [] => by simp [sizeSs]
 | n, t :: ts => by
  have h1 := sizeS_le t
  have h2 := sizeSs_le (n + sizeS t) ts
  rw [sizeSs, wSs]
  split <;> omega
end
set_option maxHeartbeats 4000000 in
set_option maxRecDepth 100000 in
theorem rsizeS_any : ∀ (n : Nat) (l : List St) (w : World) (v : Value), wSs l ≤ n → n ≤ 1048576 → Lies w 14 v (l.map St.cells) → St.Ins w l →
  Calls Tryz.prog 16 #[v] w fun r w' => r = .returned (.int .i64 (sizeSs 0 l : Int)) ∧ Below w.heap.size w w' := by
 intro n
 induction n using Nat.strongRecOn with
 | ind n ih =>
  intro l w v hw hn hl hin
  have hlen := wSs_len l
  obtain ⟨p, cap, rfl, hcap, hx⟩ := id hl
  rw [List.length_map] at *
  obtain ⟨R, hR⟩ : ∃ R, sizeSs 0 l = R := ⟨_, rfl⟩
  rw [hR]
  generalize hL : l.length = L at *
  have HR := hid hR
  have HL := hid hL
  have HX := hid hl
  have HI := hid hin
  clear hx hL hl hin hR
  go_enter Tryz.func16, Tryz.ntmps16
  go_wp2_with fail
  go_loopg [3, 4] L (fun gf u v wx => ∃ i a : Nat, u = .int .i64 (a : Int) ∧ v = .int .i64 (i : Int) ∧ i ≤ L ∧ L ≤ i + gf ∧ a ≤ 2097152 ∧ Hid (sizeSs a (l.drop i) = R) ∧ Hid (Below w.heap.size w wx))
  case atStart => exact ⟨0, 0, rfl, rfl, by omega, by omega, by omega, hid (by rw [List.drop_zero]; exact HR.out), hid (Below.refl _ _)⟩
  case round =>
   obtain ⟨i, a, rfl, rfl, hi, hg, ha, HA, HB⟩ := hrel
   by_cases hlt : i < L
   ·by_cases h4 : a ≤ 400
    ·obtain ⟨t', ht⟩ : ∃ t', l[i]? = some t' := ⟨l[i]'(by rw [HL.out]; exact hlt), List.getElem?_eq_getElem _⟩
     obtain ⟨b, off, cap', e, _, hx⟩ := Lies.at (HX.out.keep (Keeps.of_below HB.out)) (i := i) (by rw [List.length_map, HL.out]; exact hlt)
     injection e with e1 e2 e3
     subst e1
     clear e2 e3
     have hx' : ∀ (j : Nat) (u : Value), t'.cells[j]? = some u → wr.cell? ⟨b, off + i * 14 + j, none⟩ = some u := hx i t'.cells (by rw [List.getElem?_map, ht]; rfl)
     have hws := wSs_get l i t' ht
     have hle := sizeS_le t'
     have K : Hid (sizeSs (a + sizeS t') (l.drop (i + 1)) = R) := hid (by rw [← HA.out, drop_cons ht, sizeSs, if_neg (by omega)])
     have hin' := St.In.keep (Keeps.of_below HB.out) t' ((St.ins_iff w l).1 HI.out t' (List.mem_of_getElem? ht))
     obtain ⟨k, name, place, expr, tv, thn, ev, els⟩ := t'
     rw [sizeS] at hle K
     rw [wS] at hws hle
     rw [St.In] at hin'
     obtain ⟨hp, he, htl, hts, hel, hes⟩ := hin'
     have y1 : wr.cell? ⟨b, off + i * 14 + 1, none⟩ = some (.string name) := hx' 1 _ rfl
     have y12 : wr.cell? ⟨b, off + i * 14 + 12, none⟩ = some tv := hx' 12 _ (St.cells_tv ..)
     have y13 : wr.cell? ⟨b, off + i * 14 + 13, none⟩ = some ev := hx' 13 _ (St.cells_ev ..)
     have P1 := hid (reg_cells (St.at_place hx'))
     have P2 := hid (reg_cells (St.at_expr hx'))
     have Z1 := hid (exSize place)
     have Z2 := hid (exSize expr)
     have q1 := sizeE_le place
     have q2 := sizeE_le expr
     have q3 := sizeSs_le 0 thn
     have q4 := sizeSs_le 0 els
     have c1 := fun d os => Calls.regrown_of (rsizeE_any (wE place) place (grow (redrawn wr d) os) (Nat.le_refl _) (by omega) (Ex.In.keep (Keeps.of_below (below_regrown wr d os)) _ hp))
     have c2 := fun d os => Calls.regrown_of (rsizeE_any (wE expr) expr (grow (redrawn wr d) os) (Nat.le_refl _) (by omega) (Ex.In.keep (Keeps.of_below (below_regrown wr d os)) _ he))
     have c3 := fun d os => Calls.regrown_of (ih (wSs thn) (by omega) thn (grow (redrawn wr d) os) tv (Nat.le_refl _) (by omega) (htl.keep (Keeps.of_below (below_regrown wr d os))) (St.Ins.keep (Keeps.of_below (below_regrown wr d os)) thn hts))
     have c4 := fun d os => Calls.regrown_of (ih (wSs els) (by omega) els (grow (redrawn wr d) os) ev (Nat.le_refl _) (by omega) (hel.keep (Keeps.of_below (below_regrown wr d os))) (St.Ins.keep (Keeps.of_below (below_regrown wr d os)) els hes))
     simp only [Ex.val] at c1 c2
     have hdi : ((name.size : Int)) / 100 = ((name.size / 100 : Nat) : Int) := by omega
     have hd : name.size / 100 ≤ name.size := Nat.div_le_self _ _
     generalize hD : name.size / 100 = D at *
     generalize sizeE place = T1 at *
     generalize sizeE expr = T2 at *
     generalize sizeSs 0 thn = T3 at *
     generalize sizeSs 0 els = T4 at *
     have HD := hid hdi
     have k1 := cell_regrown y1
     have k12 := cell_regrown y12
     have k13 := cell_regrown y13
     have C1 := hid c1
     have C2 := hid c2
     have C3 := hid c3
     have C4 := hid c4
     clear hx hx' ht c1 c2 c3 c4 ih hp he htl hts hel hes y1 y12 y13 hdi hD
     go_wp2_with fail
     refine wp_region_quiet_below (by kernel_rfl) (by kernel_rfl) ?_
     repeat (first | ((with_reducible refine wpQuiet_load_at (o := ⟨some 29, _, _, _, _, _⟩) rfl _ _ rfl b (off + i * 14 + 2) rfl place.cells _ P1.out Tryz.underlying40 rfl Z1.out ?_); simp only [Act.put, List.setIfInBounds_toArray, List.set_cons_zero, List.set_cons_succ]) | ((with_reducible refine wpQuiet_load_at (o := ⟨some 36, _, _, _, _, _⟩) rfl _ _ rfl b (off + i * 14 + 7) rfl expr.cells _ P2.out Tryz.underlying40 rfl Z2.out ?_); simp only [Act.put, List.setIfInBounds_toArray, List.set_cons_zero, List.set_cons_succ]) | go_big_quiet_step (first | (with_reducible exact C1.out _ _) | (with_reducible exact C2.out _ _) | (with_reducible exact C3.out _ _) | (with_reducible exact C4.out _ _)))
     refine wpQuiet_nil ?_
     intro _ hw'
     obtain ⟨⟨dq, osq⟩, hw''⟩ := hw'
     subst hw''
     have HB1 := hid (HB.out.trans ((below_regrown wr dq osq).mono HB.out.size))
     go_wp2_with fail
     go_roundg (gk - 1)
     case measure => omega
     case rel => exact ⟨i + 1, a + (1 + D + T1 + T2 + T3 + T4), by rw [HD.out]; go_num, by go_num, by omega, by omega, by omega, K, HB1⟩
    ·have K : Hid (a = R) := hid (by
      rw [← HA.out]
      obtain ⟨t', ht⟩ : ∃ t', l[i]? = some t' := ⟨l[i]'(by rw [HL.out]; exact hlt), List.getElem?_eq_getElem _⟩
      rw [drop_cons ht, sizeSs, if_pos (by omega)])
     clear ih
     go_wp2_with fail
     go_ret
     exact ⟨ret_nat K.out, HB.out⟩
   ·obtain rfl : i = L := by omega
    have K : Hid (a = R) := hid (by rw [← HA.out, ← HL.out, List.drop_length, sizeSs])
    clear ih
    go_wp2_with fail
    go_ret
    exact ⟨ret_nat K.out, HB.out⟩
/- Contracts of lienbookref02's depths of types, of what stands in parentheses, of expressions. -/

theorem deepTs_snoc (l : List Ty) (i : Nat) (t : Ty) (h : l[i]? = some t) : deepTs (l.take (i + 1)) = max (deepTs (l.take i)) (deepT t) := by
 induction l generalizing i with
 | nil => simp at h
 | cons x l ih =>
  cases i with
  | zero => simp at h; subst h; simp [deepTs]
  | succ i => rw [List.take_succ_cons, List.take_succ_cons, deepTs, deepTs, ih i (by simpa using h)]; omega
mutual
theorem deepT_le : ∀ t : Ty, deepT t ≤ wT t
 | .mk k life mt v kids => by
  have := deepTs_le kids
  rw [deepT, wT]
  split <;> omega
theorem deepTs_le : ∀ l : List Ty, deepTs l ≤ wTs l
 | [] => by simp [deepTs]
 | t :: ts => by
  have h1 := deepT_le t
  have h2 := deepTs_le ts
  rw [deepTs, wTs]
  omega
end
set_option maxHeartbeats 4000000 in
set_option maxRecDepth 100000 in
theorem rdeepT_any : ∀ (n : Nat) (t : Ty) (w : World), wT t ≤ n → n ≤ 1048576 → t.In w → Calls Tryz.prog 55 #[t.val] w fun r w' => r = .returned (.int .i64 (deepT t : Int)) ∧ Below w.heap.size w w' := by
 intro n
 induction n with
 | zero => intro t w h; obtain ⟨k, life, mt, v, kids⟩ := t; rw [wT] at h; omega
 | succ n ih =>
  intro t w hw hn hin
  obtain ⟨k, life, mt, v, kids⟩ := t
  have hdk := deepTs_le kids
  rw [wT] at hw
  rw [Ty.In] at hin
  obtain ⟨hl, hk⟩ := hin
  have hlen := wTs_len kids
  obtain ⟨R, hR⟩ : ∃ R, deepT (.mk k life mt v kids) = R := ⟨_, rfl⟩
  rw [hR]
  rw [deepT] at hR
  have yk : (Ty.mk k life mt v kids).cells[3]? = some v := rfl
  have y0 : (Ty.mk k life mt v kids).cells[0]? = some (.int .i64 k) := rfl
  rw [Ty.val]
  generalize (Ty.mk k life mt v kids).cells = cs at *
  have hl' := hl
  obtain ⟨p, cap, rfl, hcap, hx⟩ := hl
  rw [List.length_map] at *
  generalize hL : kids.length = L at *
  have HS := hid hR
  have HL := hid hL
  have HK := hid hk
  have HX := hid hl'
  have YK := hid yk
  clear hx hk hL hl' hR yk
  have B0 : Below w.heap.size w (w.alloc (.cells cs.toArray 34 (0, 0))) := (Below.refl _ _).alloc (Nat.le_refl _) _
  have X0 : BoxAt (w.alloc (.cells cs.toArray 34 (0, 0))) w.heap.size cs := BoxAt.new _ _ _
  have d0 := box_get X0 y0
  have Y0 := hid y0
  have X0 := hid X0
  have B0 := hid B0
  clear y0
  by_cases hk2 : k < 2
  ·clear ih
   go_enter Tryz.func55, Tryz.ntmps55
   go_wp2_with fail
   go_ret
   exact ⟨ret_int (by rw [← HS.out, if_pos (.inl hk2)]; rfl), B0.out⟩
  by_cases hk4 : 4 < k
  ·clear ih
   go_enter Tryz.func55, Tryz.ntmps55
   go_wp2_with fail
   go_ret
   exact ⟨ret_int (by rw [← HS.out, if_pos (.inr hk4)]; rfl), B0.out⟩
  have HR : Hid (deepTs kids + 1 = R) := hid (by rw [← HS.out, if_neg (by omega)])
  clear HS
  go_enter Tryz.func55, Tryz.ntmps55
  go_wp2_with fail
  have X0 := X0.out
  generalize w.alloc _ = W1 at *
  have X0 := hid X0
  go_loopg [3, 4] L (fun gf u v wx => ∃ i a : Nat, u = .int .i64 (a : Int) ∧ v = .int .i64 (i : Int) ∧ i ≤ L ∧ L ≤ i + gf ∧ a ≤ 1048576 ∧ Hid (deepTs (kids.take i) = a) ∧ Hid (Below W1.heap.size W1 wx))
  case atStart => exact ⟨0, 0, rfl, rfl, by omega, by omega, by omega, hid (by simp [deepTs]), hid (Below.refl _ _)⟩
  case round =>
   obtain ⟨i, a, rfl, rfl, hi, hg, ha, HA, HB⟩ := hrel
   have hbw := hid (B0.out.trans (HB.out.mono B0.out.size))
   have XR := hid (X0.out.later HB.out)
   have d3 := box_get XR.out YK.out
   clear d0
   by_cases hlt : i < L
   ·obtain ⟨t', ht⟩ : ∃ t', kids[i]? = some t' := ⟨kids[i]'(by rw [HL.out]; exact hlt), List.getElem?_eq_getElem _⟩
    obtain ⟨b, off, cap', e, _, hx⟩ := Lies.at (HX.out.keep (Keeps.of_below hbw.out)) (i := i) (by rw [List.length_map, HL.out]; exact hlt)
    injection e with e1 e2 e3
    subst e1
    clear e2 e3
    have hx' : ∀ (j : Nat) (u : Value), t'.cells[j]? = some u → wr.cell? ⟨b, off + i * 4 + j, none⟩ = some u := hx i t'.cells (by rw [List.getElem?_map, ht]; rfl)
    have hin' : t'.In wr := Ty.In.keep (Keeps.of_below hbw.out) t' ((Ty.ins_iff w kids).1 HK.out t' (List.mem_of_getElem? ht))
    have hws := wTs_get kids i t' ht
    have hle := deepT_le t'
    have K : Hid (deepTs (kids.take (i + 1)) = max a (deepT t')) := hid (by rw [deepTs_snoc kids i t' ht, HA.out])
    have HZ := hid (tySize t')
    have cI := ih t' wr (by omega) (by omega) hin'
    rw [Ty.val] at cI
    have CI := hid cI
    have HC := hid hx'
    clear hx hx' ht hin' ih cI
    generalize deepT t' = q at *
    have CM := hid (fun W => rmore_any a q W)
    go_wp2_with (with_reducible refine wpList_load_at (o := ⟨some 25, _, _, _, _, _⟩) rfl _ _ rfl b (off + i * 4) rfl t'.cells _ HC.out Tryz.underlying34 rfl HZ.out ?_)
    with_reducible refine CI.out.mono ?_
    rintro e W2 ⟨rfl, hb2⟩
    have H2 := hid hb2
    clear hb2
    go_wp2_with fail
    with_reducible refine (CM.out _).mono ?_
    rintro e W3 ⟨rfl, rfl⟩
    go_wp2_with fail
    go_roundg (gk - 1)
    case measure => omega
    case rel => exact ⟨i + 1, max a q, rfl, by go_num, by omega, by omega, by omega, K, hid (HB.out.trans (H2.out.mono HB.out.size))⟩
   ·obtain rfl : i = L := by omega
    have K : Hid (a + 1 = R) := hid (by rw [← HR.out, ← HA.out, ← HL.out, List.take_length])
    clear ih
    go_wp2_with fail
    go_ret
    exact ⟨ret_int (by rw [← K.out]; rfl), hbw.out⟩

theorem aside_eq (e : Ex) (j : Nat) (t : Ex) : asideB e.str t.str j = (if e.str = 1 then t.str == 1 else decide (t.str < e.str) || (j == 1 && t.str == e.str)) := rfl
set_option maxHeartbeats 4000000 in
set_option maxRecDepth 100000 in
theorem raside_any (e : Ex) (w : World) (j : Nat) (t : Ex) (hin : e.In w) (ht : e.kids[j]? = some t) (hw : wE e ≤ 1048576) : Calls Tryz.prog 91 #[e.val, .int .i64 (j : Int)] w fun r w' => r = .returned (.bool (asideB e.str t.str j)) ∧ Below w.heap.size w w' := by
 have hj : j < e.kids.length := (List.getElem?_eq_some_iff.1 ht).1
 have hlen := wEs_len e.kids
 have hwk : wEs e.kids ≤ wE e := by obtain ⟨k, num, name, mt, v, kids⟩ := e; rw [wE]; simp only [Ex.kids]; omega
 have hl : Lies w 5 e.v (e.kids.map Ex.cells) := by obtain ⟨k, num, name, mt, v, kids⟩ := e; rw [Ex.In] at hin; exact hin.2.1
 have yv : e.cells[4]? = some e.v := by obtain ⟨k, num, name, mt, v, kids⟩ := e; rfl
 have ce := fun W => rStr_any e W
 have ct := fun W => rStr_any t W
 have ez := exSize e
 have tz := exSize t
 obtain ⟨R, hR⟩ : ∃ R, asideB e.str t.str j = R := ⟨_, rfl⟩
 rw [hR]
 rw [aside_eq] at hR
 unfold Ex.val at *
 generalize e.str = s at *
 generalize t.str = u at *
 generalize hcs : e.cells = cs at *
 clear hcs
 generalize e.v = v at *
 generalize hL : e.kids.length = L at *
 obtain ⟨b, off, cap, rfl, hcap, hx⟩ := hl.at (i := j) (by rw [List.length_map]; omega)
 rw [List.length_map, hL] at *
 have hx' : ∀ (i : Nat) (u : Value), t.cells[i]? = some u → w.cell? ⟨b, off + j * 5 + i, none⟩ = some u := hx j t.cells (by rw [List.getElem?_map, ht]; rfl)
 generalize hct : t.cells = ts at *
 clear hct ht hx hl hL hin
 have B0 : Below w.heap.size w (w.alloc (.cells cs.toArray 40 (0, 0))) := (Below.refl _ _).alloc (Nat.le_refl _) _
 have X0 : BoxAt (w.alloc (.cells cs.toArray 40 (0, 0))) w.heap.size cs := BoxAt.new _ _ _
 have hx0 : ∀ (i : Nat) (u : Value), ts[i]? = some u → (w.alloc (.cells cs.toArray 40 (0, 0))).cell? ⟨b, off + j * 5 + i, none⟩ = some u := fun i u h => later B0 (hx' i u h)
 have d4 := box_get X0 yv
 have HT0 := hid hx0
 have HS := hid hR
 have CE := hid ce
 have CT := hid ct
 have EZ := hid ez
 have TZ := hid tz
 have X0 := hid X0
 have B0 := hid B0
 clear hx' hx0 hR ce ct ez tz yv
 go_enter Tryz.func91, Tryz.ntmps91
 go_wp2_with (with_reducible refine wpList_load_at (o := ⟨some 10, _, _, _, _, _⟩) rfl _ _ rfl b (off + j * 5) rfl ts _ HT0.out Tryz.underlying40 rfl TZ.out ?_)
 with_reducible refine (CT.out _).mono ?_
 rintro e W1 ⟨rfl, hb1⟩
 have X1 := hid (X0.out.later hb1)
 have B1 := hid (B0.out.trans (hb1.mono B0.out.size))
 have XE : ∀ (i : Nat) (u : Value), cs[i]? = some u → W1.cell? ⟨w.heap.size, 0 + i, none⟩ = some u := fun i u h => by rw [Nat.zero_add]; exact X1.out i u h
 have XE1 := hid XE
 clear XE hb1
 go_wp2_with (with_reducible refine wpList_load_at (o := ⟨some 12, _, _, _, _, _⟩) rfl _ _ rfl w.heap.size 0 rfl cs _ XE1.out Tryz.underlying40 rfl EZ.out ?_)
 with_reducible refine (CE.out _).mono ?_
 rintro e W2 ⟨rfl, hb2⟩
 have X2 := hid (X1.out.later hb2)
 have B2 := hid (B1.out.trans (hb2.mono B1.out.size))
 have XE : ∀ (i : Nat) (u : Value), cs[i]? = some u → W2.cell? ⟨w.heap.size, 0 + i, none⟩ = some u := fun i u h => by rw [Nat.zero_add]; exact X2.out i u h
 have XE2 := hid XE
 clear XE hb2 d4
 by_cases hs : s = 1
 ·subst hs
  go_wp2_with fail
  go_ret
  exact ⟨ret_bool (by rw [← HS.out, Bool.eq_iff_iff]; simp; omega), B2.out⟩
 ·have hs1 : ((s : Int) == 1) = false := by simp; omega
  go_wp2_with (with_reducible refine wpList_load_at (o := ⟨some 18, _, _, _, _, _⟩) rfl _ _ rfl w.heap.size 0 rfl cs _ XE2.out Tryz.underlying40 rfl EZ.out ?_)
  with_reducible refine (CE.out _).mono ?_
  rintro e W3 ⟨rfl, hb3⟩
  have X3 := hid (X2.out.later hb3)
  have B3 := hid (B2.out.trans (hb3.mono B2.out.size))
  have XE : ∀ (i : Nat) (u : Value), cs[i]? = some u → W3.cell? ⟨w.heap.size, 0 + i, none⟩ = some u := fun i u h => by rw [Nat.zero_add]; exact X3.out i u h
  have XE3 := hid XE
  clear XE hb3 hs1
  by_cases h1 : u < s
  ·go_wp2_with fail
   go_ret
   exact ⟨ret_bool (by rw [← HS.out, if_neg hs]; simp [h1]), B3.out⟩
  ·by_cases h2 : j = 1
   ·subst h2
    go_wp2_with (with_reducible refine wpList_load_at (o := ⟨some 26, _, _, _, _, _⟩) rfl _ _ rfl w.heap.size 0 rfl cs _ XE3.out Tryz.underlying40 rfl EZ.out ?_)
    with_reducible refine (CE.out _).mono ?_
    rintro e W4 ⟨rfl, hb4⟩
    go_wp2_with fail
    go_ret
    exact ⟨ret_bool (by rw [← HS.out, if_neg hs, Bool.eq_iff_iff]; simp [h1]; omega), B3.out.trans (hb4.mono B3.out.size)⟩
   ·have h2' : ((j : Int) == 1) = false := by simp; omega
    go_wp2_with fail
    go_ret
    exact ⟨ret_bool (by rw [← HS.out, if_neg hs]; simp [h1, h2]), B3.out⟩
end Go.Proofs.YtemflcojebanlaaGreatDoor.TreeC
