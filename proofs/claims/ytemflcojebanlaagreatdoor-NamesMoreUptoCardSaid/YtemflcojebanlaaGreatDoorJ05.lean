/- Contracts of tree.every at each type: is a list no longer than lists may be, and each of its things as a function asks? -/
import Derived.Test.YtemflcojebanlaaGreatDoorJ04
namespace Go.Proofs.YtemflcojebanlaaGreatDoor.TreeC
open Go Go.RowKit Go.Lib LexP TreeP LexC

theorem rowed_below' (w : World) (Z : Obj) (cs : Array Value) : Below w.heap.size w ((w.alloc Z).setRow w.heap.size cs) := by
 have h := (Below.refl w.heap.size w).alloc (Nat.le_refl _) Z
 refine ⟨h.os, h.tape, h.output, by simp, fun k hk => ?_⟩
 rw [setRow_other _ _ _ _ (by omega)]
 exact h.block k hk
theorem rowed_box' (w : World) (old : Array Value) (T : TypeId) (cs : List Value) : BoxAt ((w.alloc (.cells old T (0, 0))).setRow w.heap.size cs.toArray) w.heap.size cs := fun j u h => by
 rw [cell_setRow_same _ _ _ _ _ _ _ (heap_alloc_new _ _)]
 simp [h]
/-- a function value goes to its function -/
def Enters (g : Nat) : Prop := ∀ (args : Array Value) (w : World), (callFunc g args).run Tryz.prog w = .ok (.enter g args) w
/-- each is one cell -/
def Ones (cs : List Value) : Prop := cs.toArray.all (·.oneCell') = true

set_option maxHeartbeats 4000000 in
set_option maxRecDepth 100000 in
theorem every_tySize (g : Nat) (f : Ty → Bool) (eg : Enters g) (w : World) (v : Value) (l : List Ty) (hl : Lies w 4 v (l.map Ty.cells)) (hlen : l.length ≤ 1048576) (h1 : ∀ x ∈ l, Ones (Ty.cells x))
  (H : ∀ x ∈ l, ∀ W, Below w.heap.size w W → Calls Tryz.prog g #[.agg (Ty.cells x).toArray] W fun r w' => r = .returned (.bool (f x)) ∧ Below W.heap.size W w') :
  Calls Tryz.prog 100 #[v, .func (.func g) #[] #[]] w fun r w' => r = .returned (.bool (l.all f && decide (l.length ≤ 30))) ∧ Below w.heap.size w w' := by
 obtain ⟨R, hR⟩ : ∃ R, (l.all f && decide (l.length ≤ 30)) = R := ⟨_, rfl⟩
 rw [hR]
 have eg' : ∀ (args : Array Value) (w : World), (callFunc g args).run Tryz.prog w = .ok (.enter g args) w := eg
 have hl' := hl
 obtain ⟨p, cap, rfl, hcap, hx⟩ := hl
 rw [List.length_map] at *
 generalize hL : l.length = L at *
 have HS := hid hR
 have HL := hid hL
 have HX := hid hl'
 have HH := hid H
 have H1 := hid h1
 clear hx hL hl' hR H h1 eg
 by_cases h30 : 30 < L
 ·clear eg'
  go_enter Tryz.func100, Tryz.ntmps100
  go_wp2_with fail
  go_ret
  exact ⟨ret_bool (by rw [← HS.out]; simp; omega), Below.refl _ _⟩
 go_enter Tryz.func100, Tryz.ntmps100
 go_wp2_with fail
 go_loopg [12] L (fun gf v wx => ∃ i : Nat, v = .int .i64 (i : Int) ∧ i ≤ L ∧ L ≤ i + gf ∧ Hid (l.all f = (l.drop i).all f) ∧ Hid (Below w.heap.size w wx))
 case atStart => exact ⟨0, rfl, by omega, by omega, hid (by simp), hid (Below.refl _ _)⟩
 case round =>
  obtain ⟨i, rfl, hi, hg, HR, HB⟩ := hrel
  by_cases hlt : i < L
  ·obtain ⟨t', ht⟩ : ∃ t', l[i]? = some t' := ⟨l[i]'(by rw [HL.out]; exact hlt), List.getElem?_eq_getElem _⟩
   obtain ⟨b, off, cap', e, _, hx⟩ := Lies.at (HX.out.keep (Keeps.of_below HB.out)) (i := i) (by rw [List.length_map, HL.out]; exact hlt)
   injection e with e1 e2 e3
   subst e1
   clear e2 e3
   have hx' : ∀ (j : Nat) (u : Value), (Ty.cells t')[j]? = some u → wr.cell? ⟨b, off + i * 4 + j, none⟩ = some u := hx i (Ty.cells t') (by rw [List.getElem?_map, ht]; rfl)
   have hr : (l.drop i).all f = (f t' && (l.drop (i + 1)).all f) := by
    have hlt' : i < l.length := (List.getElem?_eq_some_iff.1 ht).1
    rw [List.drop_eq_getElem_cons hlt', (List.getElem?_eq_some_iff.1 ht).2, List.all_cons]
   have ho := H1.out t' (List.mem_of_getElem? ht)
   unfold Ones at ho
   have hz := tySize t'
   have hc := HH.out t' (List.mem_of_getElem? ht)
   generalize Ty.cells t' = fcs at *
   generalize f t' = ft at *
   have hb2 : Below wr.heap.size wr ((wr.alloc (.cells #[.int .i64 0, .string ⟨#[]⟩, .bool false, .slice none 0 0] 34 (0, 0))).setRow wr.heap.size fcs.toArray) := rowed_below' _ _ _
   have hX2 : BoxAt ((wr.alloc (.cells #[.int .i64 0, .string ⟨#[]⟩, .bool false, .slice none 0 0] 34 (0, 0))).setRow wr.heap.size fcs.toArray) wr.heap.size fcs := rowed_box' _ _ _ _
   have B2 := hid (HB.out.trans (hb2.mono HB.out.size))
   have CI := hid (hc _ B2.out)
   have ZF := hid hz
   have ZA : Hid ((Tryz.prog.info? 34).map (·.size) = some fcs.toArray.size) := hid (by rw [List.size_toArray]; exact hz)
   have ZO : Hid ((#[.int .i64 0, .string ⟨#[]⟩, .bool false, .slice none 0 0] : Array Value).size = fcs.toArray.size) := hid (by
    rw [show (Tryz.prog.info? 34).map (·.size) = some 4 by kernel_rfl] at hz
    exact Option.some.inj hz)
   have H1C := hid ho
   have HC := hid hx'
   have XE : Hid (∀ (j : Nat) (u : Value), fcs[j]? = some u → ((wr.alloc (.cells #[.int .i64 0, .string ⟨#[]⟩, .bool false, .slice none 0 0] 34 (0, 0))).setRow wr.heap.size fcs.toArray).cell? ⟨wr.heap.size, 0 + j, none⟩ = some u) := hid fun j u h => by rw [Nat.zero_add]; exact hX2 j u h
   have HRR := hid hr
   clear hx hx' ht hr ho hz hc hb2 hX2
   cases ft
   ·have K : Hid (R = false) := hid (by rw [← HS.out, HR.out, HRR.out]; rfl)
    go_wp2_with (first | (with_reducible refine wpList_load_at (o := ⟨some 15, _, _, _, _, _⟩) rfl _ _ rfl b (off + i * 4) rfl fcs _ HC.out Tryz.underlying34 rfl ZF.out ?_) | (with_reducible refine wpList_store_row (o := ⟨none, _, _, _, _, _⟩) rfl _ _ _ rfl wr.heap.size fcs.toArray rfl rfl _ _ (heap_alloc_new _ _) ZA.out ZO.out H1C.out ?_) | (with_reducible refine wpList_load_at (o := ⟨some 17, _, _, _, _, _⟩) rfl _ _ rfl wr.heap.size 0 rfl fcs _ XE.out Tryz.underlying34 rfl ZF.out ?_) | (go_at_fn g; with_reducible refine CI.out.mono ?_; rintro e W3 ⟨rfl, hb3⟩))
    go_ret
    exact ⟨ret_bool K.out.symm, B2.out.trans (hb3.mono B2.out.size)⟩
   ·have K : Hid (l.all f = (l.drop (i + 1)).all f) := hid (by rw [HR.out, HRR.out]; rfl)
    go_wp2_with (first | (with_reducible refine wpList_load_at (o := ⟨some 15, _, _, _, _, _⟩) rfl _ _ rfl b (off + i * 4) rfl fcs _ HC.out Tryz.underlying34 rfl ZF.out ?_) | (with_reducible refine wpList_store_row (o := ⟨none, _, _, _, _, _⟩) rfl _ _ _ rfl wr.heap.size fcs.toArray rfl rfl _ _ (heap_alloc_new _ _) ZA.out ZO.out H1C.out ?_) | (with_reducible refine wpList_load_at (o := ⟨some 17, _, _, _, _, _⟩) rfl _ _ rfl wr.heap.size 0 rfl fcs _ XE.out Tryz.underlying34 rfl ZF.out ?_) | (go_at_fn g; with_reducible refine CI.out.mono ?_; rintro e W3 ⟨rfl, hb3⟩))
    go_roundg (gk - 1)
    case measure => omega
    case rel => exact ⟨i + 1, by go_num, by omega, by omega, K, hid (B2.out.trans (hb3.mono B2.out.size))⟩
  ·obtain rfl : i = L := by omega
   have K : Hid (R = true) := hid (by
    have h := HR.out
    rw [← HL.out, List.drop_length] at h
    rw [← HS.out, h]; simp; omega)
   clear eg'
   go_wp2_with fail
   go_ret
   exact ⟨ret_bool K.out.symm, HB.out⟩
set_option maxHeartbeats 4000000 in
set_option maxRecDepth 100000 in
theorem every_exSize (g : Nat) (f : Ex → Bool) (eg : Enters g) (w : World) (v : Value) (l : List Ex) (hl : Lies w 5 v (l.map Ex.cells)) (hlen : l.length ≤ 1048576) (h1 : ∀ x ∈ l, Ones (Ex.cells x))
  (H : ∀ x ∈ l, ∀ W, Below w.heap.size w W → Calls Tryz.prog g #[.agg (Ex.cells x).toArray] W fun r w' => r = .returned (.bool (f x)) ∧ Below W.heap.size W w') :
  Calls Tryz.prog 105 #[v, .func (.func g) #[] #[]] w fun r w' => r = .returned (.bool (l.all f && decide (l.length ≤ 30))) ∧ Below w.heap.size w w' := by
 obtain ⟨R, hR⟩ : ∃ R, (l.all f && decide (l.length ≤ 30)) = R := ⟨_, rfl⟩
 rw [hR]
 have eg' : ∀ (args : Array Value) (w : World), (callFunc g args).run Tryz.prog w = .ok (.enter g args) w := eg
 have hl' := hl
 obtain ⟨p, cap, rfl, hcap, hx⟩ := hl
 rw [List.length_map] at *
 generalize hL : l.length = L at *
 have HS := hid hR
 have HL := hid hL
 have HX := hid hl'
 have HH := hid H
 have H1 := hid h1
 clear hx hL hl' hR H h1 eg
 by_cases h30 : 30 < L
 ·clear eg'
  go_enter Tryz.func105, Tryz.ntmps105
  go_wp2_with fail
  go_ret
  exact ⟨ret_bool (by rw [← HS.out]; simp; omega), Below.refl _ _⟩
 go_enter Tryz.func105, Tryz.ntmps105
 go_wp2_with fail
 go_loopg [12] L (fun gf v wx => ∃ i : Nat, v = .int .i64 (i : Int) ∧ i ≤ L ∧ L ≤ i + gf ∧ Hid (l.all f = (l.drop i).all f) ∧ Hid (Below w.heap.size w wx))
 case atStart => exact ⟨0, rfl, by omega, by omega, hid (by simp), hid (Below.refl _ _)⟩
 case round =>
  obtain ⟨i, rfl, hi, hg, HR, HB⟩ := hrel
  by_cases hlt : i < L
  ·obtain ⟨t', ht⟩ : ∃ t', l[i]? = some t' := ⟨l[i]'(by rw [HL.out]; exact hlt), List.getElem?_eq_getElem _⟩
   obtain ⟨b, off, cap', e, _, hx⟩ := Lies.at (HX.out.keep (Keeps.of_below HB.out)) (i := i) (by rw [List.length_map, HL.out]; exact hlt)
   injection e with e1 e2 e3
   subst e1
   clear e2 e3
   have hx' : ∀ (j : Nat) (u : Value), (Ex.cells t')[j]? = some u → wr.cell? ⟨b, off + i * 5 + j, none⟩ = some u := hx i (Ex.cells t') (by rw [List.getElem?_map, ht]; rfl)
   have hr : (l.drop i).all f = (f t' && (l.drop (i + 1)).all f) := by
    have hlt' : i < l.length := (List.getElem?_eq_some_iff.1 ht).1
    rw [List.drop_eq_getElem_cons hlt', (List.getElem?_eq_some_iff.1 ht).2, List.all_cons]
   have ho := H1.out t' (List.mem_of_getElem? ht)
   unfold Ones at ho
   have hz := exSize t'
   have hc := HH.out t' (List.mem_of_getElem? ht)
   generalize Ex.cells t' = fcs at *
   generalize f t' = ft at *
   have hb2 : Below wr.heap.size wr ((wr.alloc (.cells #[.int .i64 0, .int .i64 0, .string ⟨#[]⟩, .bool false, .slice none 0 0] 40 (0, 0))).setRow wr.heap.size fcs.toArray) := rowed_below' _ _ _
   have hX2 : BoxAt ((wr.alloc (.cells #[.int .i64 0, .int .i64 0, .string ⟨#[]⟩, .bool false, .slice none 0 0] 40 (0, 0))).setRow wr.heap.size fcs.toArray) wr.heap.size fcs := rowed_box' _ _ _ _
   have B2 := hid (HB.out.trans (hb2.mono HB.out.size))
   have CI := hid (hc _ B2.out)
   have ZF := hid hz
   have ZA : Hid ((Tryz.prog.info? 40).map (·.size) = some fcs.toArray.size) := hid (by rw [List.size_toArray]; exact hz)
   have ZO : Hid ((#[.int .i64 0, .int .i64 0, .string ⟨#[]⟩, .bool false, .slice none 0 0] : Array Value).size = fcs.toArray.size) := hid (by
    rw [show (Tryz.prog.info? 40).map (·.size) = some 5 by kernel_rfl] at hz
    exact Option.some.inj hz)
   have H1C := hid ho
   have HC := hid hx'
   have XE : Hid (∀ (j : Nat) (u : Value), fcs[j]? = some u → ((wr.alloc (.cells #[.int .i64 0, .int .i64 0, .string ⟨#[]⟩, .bool false, .slice none 0 0] 40 (0, 0))).setRow wr.heap.size fcs.toArray).cell? ⟨wr.heap.size, 0 + j, none⟩ = some u) := hid fun j u h => by rw [Nat.zero_add]; exact hX2 j u h
   have HRR := hid hr
   clear hx hx' ht hr ho hz hc hb2 hX2
   cases ft
   ·have K : Hid (R = false) := hid (by rw [← HS.out, HR.out, HRR.out]; rfl)
    go_wp2_with (first | (with_reducible refine wpList_load_at (o := ⟨some 15, _, _, _, _, _⟩) rfl _ _ rfl b (off + i * 5) rfl fcs _ HC.out Tryz.underlying40 rfl ZF.out ?_) | (with_reducible refine wpList_store_row (o := ⟨none, _, _, _, _, _⟩) rfl _ _ _ rfl wr.heap.size fcs.toArray rfl rfl _ _ (heap_alloc_new _ _) ZA.out ZO.out H1C.out ?_) | (with_reducible refine wpList_load_at (o := ⟨some 17, _, _, _, _, _⟩) rfl _ _ rfl wr.heap.size 0 rfl fcs _ XE.out Tryz.underlying40 rfl ZF.out ?_) | (go_at_fn g; with_reducible refine CI.out.mono ?_; rintro e W3 ⟨rfl, hb3⟩))
    go_ret
    exact ⟨ret_bool K.out.symm, B2.out.trans (hb3.mono B2.out.size)⟩
   ·have K : Hid (l.all f = (l.drop (i + 1)).all f) := hid (by rw [HR.out, HRR.out]; rfl)
    go_wp2_with (first | (with_reducible refine wpList_load_at (o := ⟨some 15, _, _, _, _, _⟩) rfl _ _ rfl b (off + i * 5) rfl fcs _ HC.out Tryz.underlying40 rfl ZF.out ?_) | (with_reducible refine wpList_store_row (o := ⟨none, _, _, _, _, _⟩) rfl _ _ _ rfl wr.heap.size fcs.toArray rfl rfl _ _ (heap_alloc_new _ _) ZA.out ZO.out H1C.out ?_) | (with_reducible refine wpList_load_at (o := ⟨some 17, _, _, _, _, _⟩) rfl _ _ rfl wr.heap.size 0 rfl fcs _ XE.out Tryz.underlying40 rfl ZF.out ?_) | (go_at_fn g; with_reducible refine CI.out.mono ?_; rintro e W3 ⟨rfl, hb3⟩))
    go_roundg (gk - 1)
    case measure => omega
    case rel => exact ⟨i + 1, by go_num, by omega, by omega, K, hid (B2.out.trans (hb3.mono B2.out.size))⟩
  ·obtain rfl : i = L := by omega
   have K : Hid (R = true) := hid (by
    have h := HR.out
    rw [← HL.out, List.drop_length] at h
    rw [← HS.out, h]; simp; omega)
   clear eg'
   go_wp2_with fail
   go_ret
   exact ⟨ret_bool K.out.symm, HB.out⟩
set_option maxHeartbeats 4000000 in
set_option maxRecDepth 100000 in
theorem every_stSize (g : Nat) (f : St → Bool) (eg : Enters g) (w : World) (v : Value) (l : List St) (hl : Lies w 14 v (l.map St.cells)) (hlen : l.length ≤ 1048576) (h1 : ∀ x ∈ l, Ones (St.cells x))
  (H : ∀ x ∈ l, ∀ W, Below w.heap.size w W → Calls Tryz.prog g #[.agg (St.cells x).toArray] W fun r w' => r = .returned (.bool (f x)) ∧ Below W.heap.size W w') :
  Calls Tryz.prog 101 #[v, .func (.func g) #[] #[]] w fun r w' => r = .returned (.bool (l.all f && decide (l.length ≤ 30))) ∧ Below w.heap.size w w' := by
 obtain ⟨R, hR⟩ : ∃ R, (l.all f && decide (l.length ≤ 30)) = R := ⟨_, rfl⟩
 rw [hR]
 have eg' : ∀ (args : Array Value) (w : World), (callFunc g args).run Tryz.prog w = .ok (.enter g args) w := eg
 have hl' := hl
 obtain ⟨p, cap, rfl, hcap, hx⟩ := hl
 rw [List.length_map] at *
 generalize hL : l.length = L at *
 have HS := hid hR
 have HL := hid hL
 have HX := hid hl'
 have HH := hid H
 have H1 := hid h1
 clear hx hL hl' hR H h1 eg
 by_cases h30 : 30 < L
 ·clear eg'
  go_enter Tryz.func101, Tryz.ntmps101
  go_wp2_with fail
  go_ret
  exact ⟨ret_bool (by rw [← HS.out]; simp; omega), Below.refl _ _⟩
 go_enter Tryz.func101, Tryz.ntmps101
 go_wp2_with fail
 go_loopg [12] L (fun gf v wx => ∃ i : Nat, v = .int .i64 (i : Int) ∧ i ≤ L ∧ L ≤ i + gf ∧ Hid (l.all f = (l.drop i).all f) ∧ Hid (Below w.heap.size w wx))
 case atStart => exact ⟨0, rfl, by omega, by omega, hid (by simp), hid (Below.refl _ _)⟩
 case round =>
  obtain ⟨i, rfl, hi, hg, HR, HB⟩ := hrel
  by_cases hlt : i < L
  ·obtain ⟨t', ht⟩ : ∃ t', l[i]? = some t' := ⟨l[i]'(by rw [HL.out]; exact hlt), List.getElem?_eq_getElem _⟩
   obtain ⟨b, off, cap', e, _, hx⟩ := Lies.at (HX.out.keep (Keeps.of_below HB.out)) (i := i) (by rw [List.length_map, HL.out]; exact hlt)
   injection e with e1 e2 e3
   subst e1
   clear e2 e3
   have hx' : ∀ (j : Nat) (u : Value), (St.cells t')[j]? = some u → wr.cell? ⟨b, off + i * 14 + j, none⟩ = some u := hx i (St.cells t') (by rw [List.getElem?_map, ht]; rfl)
   have hr : (l.drop i).all f = (f t' && (l.drop (i + 1)).all f) := by
    have hlt' : i < l.length := (List.getElem?_eq_some_iff.1 ht).1
    rw [List.drop_eq_getElem_cons hlt', (List.getElem?_eq_some_iff.1 ht).2, List.all_cons]
   have ho := H1.out t' (List.mem_of_getElem? ht)
   unfold Ones at ho
   have hz := stSize t'
   have hc := HH.out t' (List.mem_of_getElem? ht)
   generalize St.cells t' = fcs at *
   generalize f t' = ft at *
   have hb2 : Below wr.heap.size wr ((wr.alloc (.cells #[.int .i64 0, .string ⟨#[]⟩, .int .i64 0, .int .i64 0, .string ⟨#[]⟩, .bool false, .slice none 0 0, .int .i64 0, .int .i64 0, .string ⟨#[]⟩, .bool false, .slice none 0 0, .slice none 0 0, .slice none 0 0] 68 (0, 0))).setRow wr.heap.size fcs.toArray) := rowed_below' _ _ _
   have hX2 : BoxAt ((wr.alloc (.cells #[.int .i64 0, .string ⟨#[]⟩, .int .i64 0, .int .i64 0, .string ⟨#[]⟩, .bool false, .slice none 0 0, .int .i64 0, .int .i64 0, .string ⟨#[]⟩, .bool false, .slice none 0 0, .slice none 0 0, .slice none 0 0] 68 (0, 0))).setRow wr.heap.size fcs.toArray) wr.heap.size fcs := rowed_box' _ _ _ _
   have B2 := hid (HB.out.trans (hb2.mono HB.out.size))
   have CI := hid (hc _ B2.out)
   have ZF := hid hz
   have ZA : Hid ((Tryz.prog.info? 68).map (·.size) = some fcs.toArray.size) := hid (by rw [List.size_toArray]; exact hz)
   have ZO : Hid ((#[.int .i64 0, .string ⟨#[]⟩, .int .i64 0, .int .i64 0, .string ⟨#[]⟩, .bool false, .slice none 0 0, .int .i64 0, .int .i64 0, .string ⟨#[]⟩, .bool false, .slice none 0 0, .slice none 0 0, .slice none 0 0] : Array Value).size = fcs.toArray.size) := hid (by
    rw [show (Tryz.prog.info? 68).map (·.size) = some 14 by kernel_rfl] at hz
    exact Option.some.inj hz)
   have H1C := hid ho
   have HC := hid hx'
   have XE : Hid (∀ (j : Nat) (u : Value), fcs[j]? = some u → ((wr.alloc (.cells #[.int .i64 0, .string ⟨#[]⟩, .int .i64 0, .int .i64 0, .string ⟨#[]⟩, .bool false, .slice none 0 0, .int .i64 0, .int .i64 0, .string ⟨#[]⟩, .bool false, .slice none 0 0, .slice none 0 0, .slice none 0 0] 68 (0, 0))).setRow wr.heap.size fcs.toArray).cell? ⟨wr.heap.size, 0 + j, none⟩ = some u) := hid fun j u h => by rw [Nat.zero_add]; exact hX2 j u h
   have HRR := hid hr
   clear hx hx' ht hr ho hz hc hb2 hX2
   cases ft
   ·have K : Hid (R = false) := hid (by rw [← HS.out, HR.out, HRR.out]; rfl)
    go_wp2_with (first | (with_reducible refine wpList_load_at (o := ⟨some 15, _, _, _, _, _⟩) rfl _ _ rfl b (off + i * 14) rfl fcs _ HC.out Tryz.underlying68 rfl ZF.out ?_) | (with_reducible refine wpList_store_row (o := ⟨none, _, _, _, _, _⟩) rfl _ _ _ rfl wr.heap.size fcs.toArray rfl rfl _ _ (heap_alloc_new _ _) ZA.out ZO.out H1C.out ?_) | (with_reducible refine wpList_load_at (o := ⟨some 17, _, _, _, _, _⟩) rfl _ _ rfl wr.heap.size 0 rfl fcs _ XE.out Tryz.underlying68 rfl ZF.out ?_) | (go_at_fn g; with_reducible refine CI.out.mono ?_; rintro e W3 ⟨rfl, hb3⟩))
    go_ret
    exact ⟨ret_bool K.out.symm, B2.out.trans (hb3.mono B2.out.size)⟩
   ·have K : Hid (l.all f = (l.drop (i + 1)).all f) := hid (by rw [HR.out, HRR.out]; rfl)
    go_wp2_with (first | (with_reducible refine wpList_load_at (o := ⟨some 15, _, _, _, _, _⟩) rfl _ _ rfl b (off + i * 14) rfl fcs _ HC.out Tryz.underlying68 rfl ZF.out ?_) | (with_reducible refine wpList_store_row (o := ⟨none, _, _, _, _, _⟩) rfl _ _ _ rfl wr.heap.size fcs.toArray rfl rfl _ _ (heap_alloc_new _ _) ZA.out ZO.out H1C.out ?_) | (with_reducible refine wpList_load_at (o := ⟨some 17, _, _, _, _, _⟩) rfl _ _ rfl wr.heap.size 0 rfl fcs _ XE.out Tryz.underlying68 rfl ZF.out ?_) | (go_at_fn g; with_reducible refine CI.out.mono ?_; rintro e W3 ⟨rfl, hb3⟩))
    go_roundg (gk - 1)
    case measure => omega
    case rel => exact ⟨i + 1, by go_num, by omega, by omega, K, hid (B2.out.trans (hb3.mono B2.out.size))⟩
  ·obtain rfl : i = L := by omega
   have K : Hid (R = true) := hid (by
    have h := HR.out
    rw [← HL.out, List.drop_length] at h
    rw [← HS.out, h]; simp; omega)
   clear eg'
   go_wp2_with fail
   go_ret
   exact ⟨ret_bool K.out.symm, HB.out⟩
set_option maxHeartbeats 4000000 in
set_option maxRecDepth 100000 in
theorem every_paSize (g : Nat) (f : Pa → Bool) (eg : Enters g) (w : World) (v : Value) (l : List Pa) (hl : Lies w 5 v (l.map Pa.cells)) (hlen : l.length ≤ 1048576) (h1 : ∀ x ∈ l, Ones (Pa.cells x))
  (H : ∀ x ∈ l, ∀ W, Below w.heap.size w W → Calls Tryz.prog g #[.agg (Pa.cells x).toArray] W fun r w' => r = .returned (.bool (f x)) ∧ Below W.heap.size W w') :
  Calls Tryz.prog 70 #[v, .func (.func g) #[] #[]] w fun r w' => r = .returned (.bool (l.all f && decide (l.length ≤ 30))) ∧ Below w.heap.size w w' := by
 obtain ⟨R, hR⟩ : ∃ R, (l.all f && decide (l.length ≤ 30)) = R := ⟨_, rfl⟩
 rw [hR]
 have eg' : ∀ (args : Array Value) (w : World), (callFunc g args).run Tryz.prog w = .ok (.enter g args) w := eg
 have hl' := hl
 obtain ⟨p, cap, rfl, hcap, hx⟩ := hl
 rw [List.length_map] at *
 generalize hL : l.length = L at *
 have HS := hid hR
 have HL := hid hL
 have HX := hid hl'
 have HH := hid H
 have H1 := hid h1
 clear hx hL hl' hR H h1 eg
 by_cases h30 : 30 < L
 ·clear eg'
  go_enter Tryz.func70, Tryz.ntmps70
  go_wp2_with fail
  go_ret
  exact ⟨ret_bool (by rw [← HS.out]; simp; omega), Below.refl _ _⟩
 go_enter Tryz.func70, Tryz.ntmps70
 go_wp2_with fail
 go_loopg [12] L (fun gf v wx => ∃ i : Nat, v = .int .i64 (i : Int) ∧ i ≤ L ∧ L ≤ i + gf ∧ Hid (l.all f = (l.drop i).all f) ∧ Hid (Below w.heap.size w wx))
 case atStart => exact ⟨0, rfl, by omega, by omega, hid (by simp), hid (Below.refl _ _)⟩
 case round =>
  obtain ⟨i, rfl, hi, hg, HR, HB⟩ := hrel
  by_cases hlt : i < L
  ·obtain ⟨t', ht⟩ : ∃ t', l[i]? = some t' := ⟨l[i]'(by rw [HL.out]; exact hlt), List.getElem?_eq_getElem _⟩
   obtain ⟨b, off, cap', e, _, hx⟩ := Lies.at (HX.out.keep (Keeps.of_below HB.out)) (i := i) (by rw [List.length_map, HL.out]; exact hlt)
   injection e with e1 e2 e3
   subst e1
   clear e2 e3
   have hx' : ∀ (j : Nat) (u : Value), (Pa.cells t')[j]? = some u → wr.cell? ⟨b, off + i * 5 + j, none⟩ = some u := hx i (Pa.cells t') (by rw [List.getElem?_map, ht]; rfl)
   have hr : (l.drop i).all f = (f t' && (l.drop (i + 1)).all f) := by
    have hlt' : i < l.length := (List.getElem?_eq_some_iff.1 ht).1
    rw [List.drop_eq_getElem_cons hlt', (List.getElem?_eq_some_iff.1 ht).2, List.all_cons]
   have ho := H1.out t' (List.mem_of_getElem? ht)
   unfold Ones at ho
   have hz := paSize t'
   have hc := HH.out t' (List.mem_of_getElem? ht)
   generalize Pa.cells t' = fcs at *
   generalize f t' = ft at *
   have hb2 : Below wr.heap.size wr ((wr.alloc (.cells #[.string ⟨#[]⟩, .int .i64 0, .string ⟨#[]⟩, .bool false, .slice none 0 0] 52 (0, 0))).setRow wr.heap.size fcs.toArray) := rowed_below' _ _ _
   have hX2 : BoxAt ((wr.alloc (.cells #[.string ⟨#[]⟩, .int .i64 0, .string ⟨#[]⟩, .bool false, .slice none 0 0] 52 (0, 0))).setRow wr.heap.size fcs.toArray) wr.heap.size fcs := rowed_box' _ _ _ _
   have B2 := hid (HB.out.trans (hb2.mono HB.out.size))
   have CI := hid (hc _ B2.out)
   have ZF := hid hz
   have ZA : Hid ((Tryz.prog.info? 52).map (·.size) = some fcs.toArray.size) := hid (by rw [List.size_toArray]; exact hz)
   have ZO : Hid ((#[.string ⟨#[]⟩, .int .i64 0, .string ⟨#[]⟩, .bool false, .slice none 0 0] : Array Value).size = fcs.toArray.size) := hid (by
    rw [show (Tryz.prog.info? 52).map (·.size) = some 5 by kernel_rfl] at hz
    exact Option.some.inj hz)
   have H1C := hid ho
   have HC := hid hx'
   have XE : Hid (∀ (j : Nat) (u : Value), fcs[j]? = some u → ((wr.alloc (.cells #[.string ⟨#[]⟩, .int .i64 0, .string ⟨#[]⟩, .bool false, .slice none 0 0] 52 (0, 0))).setRow wr.heap.size fcs.toArray).cell? ⟨wr.heap.size, 0 + j, none⟩ = some u) := hid fun j u h => by rw [Nat.zero_add]; exact hX2 j u h
   have HRR := hid hr
   clear hx hx' ht hr ho hz hc hb2 hX2
   cases ft
   ·have K : Hid (R = false) := hid (by rw [← HS.out, HR.out, HRR.out]; rfl)
    go_wp2_with (first | (with_reducible refine wpList_load_at (o := ⟨some 15, _, _, _, _, _⟩) rfl _ _ rfl b (off + i * 5) rfl fcs _ HC.out Tryz.underlying52 rfl ZF.out ?_) | (with_reducible refine wpList_store_row (o := ⟨none, _, _, _, _, _⟩) rfl _ _ _ rfl wr.heap.size fcs.toArray rfl rfl _ _ (heap_alloc_new _ _) ZA.out ZO.out H1C.out ?_) | (with_reducible refine wpList_load_at (o := ⟨some 17, _, _, _, _, _⟩) rfl _ _ rfl wr.heap.size 0 rfl fcs _ XE.out Tryz.underlying52 rfl ZF.out ?_) | (go_at_fn g; with_reducible refine CI.out.mono ?_; rintro e W3 ⟨rfl, hb3⟩))
    go_ret
    exact ⟨ret_bool K.out.symm, B2.out.trans (hb3.mono B2.out.size)⟩
   ·have K : Hid (l.all f = (l.drop (i + 1)).all f) := hid (by rw [HR.out, HRR.out]; rfl)
    go_wp2_with (first | (with_reducible refine wpList_load_at (o := ⟨some 15, _, _, _, _, _⟩) rfl _ _ rfl b (off + i * 5) rfl fcs _ HC.out Tryz.underlying52 rfl ZF.out ?_) | (with_reducible refine wpList_store_row (o := ⟨none, _, _, _, _, _⟩) rfl _ _ _ rfl wr.heap.size fcs.toArray rfl rfl _ _ (heap_alloc_new _ _) ZA.out ZO.out H1C.out ?_) | (with_reducible refine wpList_load_at (o := ⟨some 17, _, _, _, _, _⟩) rfl _ _ rfl wr.heap.size 0 rfl fcs _ XE.out Tryz.underlying52 rfl ZF.out ?_) | (go_at_fn g; with_reducible refine CI.out.mono ?_; rintro e W3 ⟨rfl, hb3⟩))
    go_roundg (gk - 1)
    case measure => omega
    case rel => exact ⟨i + 1, by go_num, by omega, by omega, K, hid (B2.out.trans (hb3.mono B2.out.size))⟩
  ·obtain rfl : i = L := by omega
   have K : Hid (R = true) := hid (by
    have h := HR.out
    rw [← HL.out, List.drop_length] at h
    rw [← HS.out, h]; simp; omega)
   clear eg'
   go_wp2_with fail
   go_ret
   exact ⟨ret_bool K.out.symm, HB.out⟩
set_option maxHeartbeats 4000000 in
set_option maxRecDepth 100000 in
theorem every_fnSize (g : Nat) (f : TreeP.Fn → Bool) (eg : Enters g) (w : World) (v : Value) (l : List TreeP.Fn) (hl : Lies w 14 v (l.map TreeP.Fn.cells)) (hlen : l.length ≤ 1048576) (h1 : ∀ x ∈ l, Ones (TreeP.Fn.cells x))
  (H : ∀ x ∈ l, ∀ W, Below w.heap.size w W → Calls Tryz.prog g #[.agg (TreeP.Fn.cells x).toArray] W fun r w' => r = .returned (.bool (f x)) ∧ Below W.heap.size W w') :
  Calls Tryz.prog 38 #[v, .func (.func g) #[] #[]] w fun r w' => r = .returned (.bool (l.all f && decide (l.length ≤ 30))) ∧ Below w.heap.size w w' := by
 obtain ⟨R, hR⟩ : ∃ R, (l.all f && decide (l.length ≤ 30)) = R := ⟨_, rfl⟩
 rw [hR]
 have eg' : ∀ (args : Array Value) (w : World), (callFunc g args).run Tryz.prog w = .ok (.enter g args) w := eg
 have hl' := hl
 obtain ⟨p, cap, rfl, hcap, hx⟩ := hl
 rw [List.length_map] at *
 generalize hL : l.length = L at *
 have HS := hid hR
 have HL := hid hL
 have HX := hid hl'
 have HH := hid H
 have H1 := hid h1
 clear hx hL hl' hR H h1 eg
 by_cases h30 : 30 < L
 ·clear eg'
  go_enter Tryz.func38, Tryz.ntmps38
  go_wp2_with fail
  go_ret
  exact ⟨ret_bool (by rw [← HS.out]; simp; omega), Below.refl _ _⟩
 go_enter Tryz.func38, Tryz.ntmps38
 go_wp2_with fail
 go_loopg [12] L (fun gf v wx => ∃ i : Nat, v = .int .i64 (i : Int) ∧ i ≤ L ∧ L ≤ i + gf ∧ Hid (l.all f = (l.drop i).all f) ∧ Hid (Below w.heap.size w wx))
 case atStart => exact ⟨0, rfl, by omega, by omega, hid (by simp), hid (Below.refl _ _)⟩
 case round =>
  obtain ⟨i, rfl, hi, hg, HR, HB⟩ := hrel
  by_cases hlt : i < L
  ·obtain ⟨t', ht⟩ : ∃ t', l[i]? = some t' := ⟨l[i]'(by rw [HL.out]; exact hlt), List.getElem?_eq_getElem _⟩
   obtain ⟨b, off, cap', e, _, hx⟩ := Lies.at (HX.out.keep (Keeps.of_below HB.out)) (i := i) (by rw [List.length_map, HL.out]; exact hlt)
   injection e with e1 e2 e3
   subst e1
   clear e2 e3
   have hx' : ∀ (j : Nat) (u : Value), (TreeP.Fn.cells t')[j]? = some u → wr.cell? ⟨b, off + i * 14 + j, none⟩ = some u := hx i (TreeP.Fn.cells t') (by rw [List.getElem?_map, ht]; rfl)
   have hr : (l.drop i).all f = (f t' && (l.drop (i + 1)).all f) := by
    have hlt' : i < l.length := (List.getElem?_eq_some_iff.1 ht).1
    rw [List.drop_eq_getElem_cons hlt', (List.getElem?_eq_some_iff.1 ht).2, List.all_cons]
   have ho := H1.out t' (List.mem_of_getElem? ht)
   unfold Ones at ho
   have hz := fnSize t'
   have hc := HH.out t' (List.mem_of_getElem? ht)
   generalize TreeP.Fn.cells t' = fcs at *
   generalize f t' = ft at *
   have hb2 : Below wr.heap.size wr ((wr.alloc (.cells #[.string ⟨#[]⟩, .slice none 0 0, .slice none 0 0, .int .i64 0, .string ⟨#[]⟩, .bool false, .slice none 0 0, .slice none 0 0, .slice none 0 0, .int .i64 0, .int .i64 0, .string ⟨#[]⟩, .bool false, .slice none 0 0] 42 (0, 0))).setRow wr.heap.size fcs.toArray) := rowed_below' _ _ _
   have hX2 : BoxAt ((wr.alloc (.cells #[.string ⟨#[]⟩, .slice none 0 0, .slice none 0 0, .int .i64 0, .string ⟨#[]⟩, .bool false, .slice none 0 0, .slice none 0 0, .slice none 0 0, .int .i64 0, .int .i64 0, .string ⟨#[]⟩, .bool false, .slice none 0 0] 42 (0, 0))).setRow wr.heap.size fcs.toArray) wr.heap.size fcs := rowed_box' _ _ _ _
   have B2 := hid (HB.out.trans (hb2.mono HB.out.size))
   have CI := hid (hc _ B2.out)
   have ZF := hid hz
   have ZA : Hid ((Tryz.prog.info? 42).map (·.size) = some fcs.toArray.size) := hid (by rw [List.size_toArray]; exact hz)
   have ZO : Hid ((#[.string ⟨#[]⟩, .slice none 0 0, .slice none 0 0, .int .i64 0, .string ⟨#[]⟩, .bool false, .slice none 0 0, .slice none 0 0, .slice none 0 0, .int .i64 0, .int .i64 0, .string ⟨#[]⟩, .bool false, .slice none 0 0] : Array Value).size = fcs.toArray.size) := hid (by
    rw [show (Tryz.prog.info? 42).map (·.size) = some 14 by kernel_rfl] at hz
    exact Option.some.inj hz)
   have H1C := hid ho
   have HC := hid hx'
   have XE : Hid (∀ (j : Nat) (u : Value), fcs[j]? = some u → ((wr.alloc (.cells #[.string ⟨#[]⟩, .slice none 0 0, .slice none 0 0, .int .i64 0, .string ⟨#[]⟩, .bool false, .slice none 0 0, .slice none 0 0, .slice none 0 0, .int .i64 0, .int .i64 0, .string ⟨#[]⟩, .bool false, .slice none 0 0] 42 (0, 0))).setRow wr.heap.size fcs.toArray).cell? ⟨wr.heap.size, 0 + j, none⟩ = some u) := hid fun j u h => by rw [Nat.zero_add]; exact hX2 j u h
   have HRR := hid hr
   clear hx hx' ht hr ho hz hc hb2 hX2
   cases ft
   ·have K : Hid (R = false) := hid (by rw [← HS.out, HR.out, HRR.out]; rfl)
    go_wp2_with (first | (with_reducible refine wpList_load_at (o := ⟨some 15, _, _, _, _, _⟩) rfl _ _ rfl b (off + i * 14) rfl fcs _ HC.out Tryz.underlying42 rfl ZF.out ?_) | (with_reducible refine wpList_store_row (o := ⟨none, _, _, _, _, _⟩) rfl _ _ _ rfl wr.heap.size fcs.toArray rfl rfl _ _ (heap_alloc_new _ _) ZA.out ZO.out H1C.out ?_) | (with_reducible refine wpList_load_at (o := ⟨some 17, _, _, _, _, _⟩) rfl _ _ rfl wr.heap.size 0 rfl fcs _ XE.out Tryz.underlying42 rfl ZF.out ?_) | (go_at_fn g; with_reducible refine CI.out.mono ?_; rintro e W3 ⟨rfl, hb3⟩))
    go_ret
    exact ⟨ret_bool K.out.symm, B2.out.trans (hb3.mono B2.out.size)⟩
   ·have K : Hid (l.all f = (l.drop (i + 1)).all f) := hid (by rw [HR.out, HRR.out]; rfl)
    go_wp2_with (first | (with_reducible refine wpList_load_at (o := ⟨some 15, _, _, _, _, _⟩) rfl _ _ rfl b (off + i * 14) rfl fcs _ HC.out Tryz.underlying42 rfl ZF.out ?_) | (with_reducible refine wpList_store_row (o := ⟨none, _, _, _, _, _⟩) rfl _ _ _ rfl wr.heap.size fcs.toArray rfl rfl _ _ (heap_alloc_new _ _) ZA.out ZO.out H1C.out ?_) | (with_reducible refine wpList_load_at (o := ⟨some 17, _, _, _, _, _⟩) rfl _ _ rfl wr.heap.size 0 rfl fcs _ XE.out Tryz.underlying42 rfl ZF.out ?_) | (go_at_fn g; with_reducible refine CI.out.mono ?_; rintro e W3 ⟨rfl, hb3⟩))
    go_roundg (gk - 1)
    case measure => omega
    case rel => exact ⟨i + 1, by go_num, by omega, by omega, K, hid (B2.out.trans (hb3.mono B2.out.size))⟩
  ·obtain rfl : i = L := by omega
   have K : Hid (R = true) := hid (by
    have h := HR.out
    rw [← HL.out, List.drop_length] at h
    rw [← HS.out, h]; simp; omega)
   clear eg'
   go_wp2_with fail
   go_ret
   exact ⟨ret_bool K.out.symm, HB.out⟩
end Go.Proofs.YtemflcojebanlaaGreatDoor.TreeC
