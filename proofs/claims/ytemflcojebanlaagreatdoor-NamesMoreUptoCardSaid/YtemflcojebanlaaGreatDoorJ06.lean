/- Texts joined: TreeTC, TreeTD, TreeTE0, TreeTF, TreeTG. -/
import Derived.Test.YtemflcojebanlaaGreatDoorJ05
import Derived.Laws.EntriesVeiled
import Derived.Deep.RegionWith
import Derived.Deep.DeepCutAuto
/- Contracts of tree's tables of kinds, and of at. -/
namespace Go.Proofs.YtemflcojebanlaaGreatDoor.TreeC
open Go Go.RowKit Go.Lib LexP TreeP LexC

abbrev fnV (g : Nat) : Value := .func (.func g) #[] #[]
abbrev iV (n : Int) : Value := .int .i64 n
def entT : Nat → List Value
 | 1 => [fnV 120, fnV 121, iV 0, iV 0]
 | 2 => [fnV 120, fnV 121, iV 1, iV 1]
 | 3 => [fnV 120, fnV 121, iV 2, iV 30]
 | 4 => [fnV 68, fnV 122, iV 1, iV 1]
 | _ => [.nilFunc, .nilFunc, iV 0, iV 0]
def tabT : List Value := entT 0 ++ entT 1 ++ entT 2 ++ entT 3 ++ entT 4
def entE : Nat → List Value
 | 1 => [fnV 125, fnV 120, fnV 121, fnV 75, iV 0, iV 0]
 | 2 => [fnV 126, fnV 68, fnV 121, fnV 75, iV 0, iV 0]
 | 3 => [fnV 127, fnV 120, fnV 121, fnV 128, iV 1, iV 1]
 | 4 => [fnV 126, fnV 120, fnV 121, fnV 128, iV 1, iV 1]
 | 5 => [fnV 126, fnV 120, fnV 122, fnV 128, iV 1, iV 1]
 | 6 => [fnV 126, fnV 120, fnV 121, fnV 75, iV 1, iV 1]
 | 7 => [fnV 126, fnV 120, fnV 121, fnV 75, iV 2, iV 30]
 | 8 => [fnV 126, fnV 129, fnV 121, fnV 75, iV 2, iV 2]
 | 9 => [fnV 126, fnV 68, fnV 121, fnV 75, iV 0, iV 30]
 | _ => [.nilFunc, .nilFunc, .nilFunc, .nilFunc, iV 0, iV 0]
def tabE : List Value := entE 0 ++ entE 1 ++ entE 2 ++ entE 3 ++ entE 4 ++ entE 5 ++ entE 6 ++ entE 7 ++ entE 8 ++ entE 9
def entS : Nat → List Value
 | 1 => [fnV 68, fnV 143, fnV 144, fnV 144]
 | 2 => [fnV 120, fnV 128, fnV 144, fnV 144]
 | 3 => [fnV 120, fnV 143, fnV 73, fnV 73]
 | 4 => [fnV 120, fnV 143, fnV 73, fnV 144]
 | _ => [.nilFunc, .nilFunc, .nilFunc, .nilFunc]
def tabS : List Value := entS 0 ++ entS 1 ++ entS 2 ++ entS 3 ++ entS 4

set_option maxHeartbeats 8000000 in
set_option maxRecDepth 100000 in
theorem typeKinds_any (w : World) : Calls Tryz.prog 98 #[] w fun r w' => r = .returned (.agg tabT.toArray) ∧ Below w.heap.size w w' := by
 have hz : Hid ((Tryz.prog.info? 166).map (·.size) = some tabT.toArray.size) := hid (show (Tryz.prog.info? 166).map (·.size) = some 20 by kernel_rfl)
 have ho : Hid (tabT.toArray.all (·.oneCell') = true) := hid (by kernel_rfl)
 go_enter Tryz.func98, Tryz.ntmps98
 go_wp2_with (with_reducible refine wpList_store_row (o := ⟨none, _, _, _, _, _⟩) rfl _ _ _ rfl w.heap.size tabT.toArray rfl ?r1 _ _ (heap_alloc_new _ _) hz.out ?r2 ho.out ?_)
 case r1 => rfl
 case r2 => rfl
 go_wp2_with fail
 refine bodyPost_ret (results_cell_row rfl _ _ w.heap.size _ tabT.toArray _ _ rfl (setRow_heap _ _ _ _ _ _ (heap_alloc_new _ _)) Tryz.underlying166 rfl hz.out) rfl ⟨rfl, rowed_below' _ _ _⟩
set_option maxHeartbeats 8000000 in
set_option maxRecDepth 100000 in
theorem exprKinds_any (w : World) : Calls Tryz.prog 103 #[] w fun r w' => r = .returned (.agg tabE.toArray) ∧ Below w.heap.size w w' := by
 have hz : Hid ((Tryz.prog.info? 176).map (·.size) = some tabE.toArray.size) := hid (show (Tryz.prog.info? 176).map (·.size) = some 60 by kernel_rfl)
 have ho : Hid (tabE.toArray.all (·.oneCell') = true) := hid (by kernel_rfl)
 go_enter Tryz.func103, Tryz.ntmps103
 go_wp2_with (with_reducible refine wpList_store_row (o := ⟨none, _, _, _, _, _⟩) rfl _ _ _ rfl w.heap.size tabE.toArray rfl ?r1 _ _ (heap_alloc_new _ _) hz.out ?r2 ho.out ?_)
 case r1 => rfl
 case r2 => rfl
 go_wp2_with fail
 refine bodyPost_ret (results_cell_row rfl _ _ w.heap.size _ tabE.toArray _ _ rfl (setRow_heap _ _ _ _ _ _ (heap_alloc_new _ _)) Tryz.underlying176 rfl hz.out) rfl ⟨rfl, rowed_below' _ _ _⟩
set_option maxHeartbeats 8000000 in
set_option maxRecDepth 100000 in
theorem stmtKinds_any (w : World) : Calls Tryz.prog 123 #[] w fun r w' => r = .returned (.agg tabS.toArray) ∧ Below w.heap.size w w' := by
 have hz : Hid ((Tryz.prog.info? 191).map (·.size) = some tabS.toArray.size) := hid (show (Tryz.prog.info? 191).map (·.size) = some 20 by kernel_rfl)
 have ho : Hid (tabS.toArray.all (·.oneCell') = true) := hid (by kernel_rfl)
 go_enter Tryz.func123, Tryz.ntmps123
 go_wp2_with (with_reducible refine wpList_store_row (o := ⟨none, _, _, _, _, _⟩) rfl _ _ _ rfl w.heap.size tabS.toArray rfl ?r1 _ _ (heap_alloc_new _ _) hz.out ?r2 ho.out ?_)
 case r1 => rfl
 case r2 => rfl
 go_wp2_with fail
 refine bodyPost_ret (results_cell_row rfl _ _ w.heap.size _ tabS.toArray _ _ rfl (setRow_heap _ _ _ _ _ _ (heap_alloc_new _ _)) Tryz.underlying191 rfl hz.out) rfl ⟨rfl, rowed_below' _ _ _⟩
/- Contracts of tree.at at each table of kinds. -/

theorem entT_len (k : Nat) : (entT k).length = 4 := by unfold entT; split <;> rfl
theorem entE_len (k : Nat) : (entE k).length = 6 := by unfold entE; split <;> rfl
theorem entS_len (k : Nat) : (entS k).length = 4 := by unfold entS; split <;> rfl
theorem entT_one (k : Nat) : (entT k).toArray.all (·.oneCell') = true := by unfold entT; split <;> kernel_rfl
theorem entE_one (k : Nat) : (entE k).toArray.all (·.oneCell') = true := by unfold entE; split <;> kernel_rfl
theorem entS_one (k : Nat) : (entS k).toArray.all (·.oneCell') = true := by unfold entS; split <;> kernel_rfl
theorem flat_at {ent : Nat → List Value} {c : Nat} (hc : ∀ k, (ent k).length = c) : ∀ (n k j : Nat) (u : Value), k < n → (ent k)[j]? = some u → ((List.range n).flatMap ent)[k * c + j]? = some u
 | 0, k, j, u, h, _ => by omega
 | n + 1, k, j, u, h, hj => by
  rw [List.range_succ, List.flatMap_append]
  have hl : ((List.range n).flatMap ent).length = n * c := by
   clear h hj
   induction n with
   | zero => simp
   | succ n ih => rw [List.range_succ, List.flatMap_append, List.length_append, ih]; simp [hc, Nat.add_mul]
  have hjc : j < c := by
   have := (List.getElem?_eq_some_iff.1 hj).1
   rw [hc] at this
   exact this
  by_cases hk : k < n
  ·have h1 : k * c + j < n * c := by
    have : (k + 1) * c ≤ n * c := Nat.mul_le_mul_right _ hk
    rw [Nat.add_mul] at this
    omega
   rw [List.getElem?_append_left (by omega)]
   exact flat_at hc n k j u hk hj
  ·obtain rfl : k = n := by omega
   rw [List.getElem?_append_right (by omega), hl, Nat.add_sub_cancel_left]
   simpa using hj
theorem tabT_at (k j : Nat) (u : Value) (hk : k < 5) (h : (entT k)[j]? = some u) : tabT[k * 4 + j]? = some u := flat_at entT_len 5 k j u hk h
theorem tabE_at (k j : Nat) (u : Value) (hk : k < 10) (h : (entE k)[j]? = some u) : tabE[k * 6 + j]? = some u := flat_at entE_len 10 k j u hk h
theorem tabS_at (k j : Nat) (u : Value) (hk : k < 5) (h : (entS k)[j]? = some u) : tabS[k * 4 + j]? = some u := flat_at entS_len 5 k j u hk h

set_option maxHeartbeats 4000000 in
set_option maxRecDepth 100000 in
theorem atT_no (w : World) (b : Nat) (k : Int) (hk : k < 1 ∨ 5 ≤ k) : Calls Tryz.prog 99 #[.slice (some ⟨b, 0, none⟩) 5 5, .int .i64 k] w fun r w' => r = .returned (.tuple #[.agg (entT 0).toArray, .bool false]) ∧ Below w.heap.size w w' := by
 have hz : Hid ((Tryz.prog.info? 165).map (·.size) = some (entT 0).length) := hid (by rw [entT_len]; exact (show (Tryz.prog.info? 165).map (·.size) = some 4 by kernel_rfl))
 have ho : Hid ((entT 0).toArray.all (·.oneCell') = true) := hid (entT_one 0)
 rcases hk with hk | hk
 all_goals
  go_enter Tryz.func99, Tryz.ntmps99
  go_wp2_with (first | (with_reducible refine wpList_store_row (o := ⟨none, _, _, _, _, _⟩) rfl _ _ _ rfl w.heap.size (entT 0).toArray rfl ?r1 _ _ (heap_alloc_new _ _) hz.out ?r2 ho.out ?_))
  refine bodyPost_ret (v := .tuple #[.agg (entT 0).toArray, .bool false]) (by simp [results, Tryz.results99, go_sem, entT]) rfl ⟨rfl, ?_⟩
  first | exact (Below.refl _ _).alloc (Nat.le_refl _) _ | exact rowed_below' _ _ _
set_option maxHeartbeats 4000000 in
set_option maxRecDepth 100000 in
theorem atT_yes (w : World) (b : Nat) (k : Nat) (hX : BoxAt w b tabT) (h1 : 1 ≤ k) (h2 : k < 5) : Calls Tryz.prog 99 #[.slice (some ⟨b, 0, none⟩) 5 5, .int .i64 (k : Int)] w fun r w' => r = .returned (.tuple #[.agg (entT k).toArray, .bool true]) ∧ Below w.heap.size w w' := by
 have hz : Hid ((Tryz.prog.info? 165).map (·.size) = some (entT k).length) := hid (by rw [entT_len]; exact (show (Tryz.prog.info? 165).map (·.size) = some 4 by kernel_rfl))
 have ho : Hid ((entT k).toArray.all (·.oneCell') = true) := hid (entT_one k)
 go_enter Tryz.func99, Tryz.ntmps99
 have B0 := (Below.refl w.heap.size w).alloc (Nat.le_refl _) (.cells #[.nilFunc, .nilFunc, .int .i64 0, .int .i64 0] 165 (0, 0))
 have HC : Hid (∀ (j : Nat) (u : Value), (entT k)[j]? = some u → (w.alloc (.cells #[.nilFunc, .nilFunc, .int .i64 0, .int .i64 0] 165 (0, 0))).cell? ⟨b, k * 4 + j, none⟩ = some u) := hid fun j u h => later B0 (hX _ u (tabT_at k j u h2 h))
 have hzs : Hid ((#[.nilFunc, .nilFunc, .int .i64 0, .int .i64 0] : Array Value).size = (entT k).toArray.size) := hid (show 4 = (entT k).length from (entT_len k).symm)
 have hza : Hid ((Tryz.prog.info? 165).map (·.size) = some (entT k).toArray.size) := hid hz.out
 clear B0 hX
 generalize entT k = ent at *
 go_wp2_with (first | (with_reducible refine wpList_load_at (o := ⟨some 18, _, _, _, _, _⟩) rfl _ _ rfl b (k * 4) rfl ent _ HC.out Tryz.underlying165 rfl hz.out ?_) | (with_reducible refine wpList_store_row (o := ⟨none, _, _, _, _, _⟩) rfl _ _ _ rfl w.heap.size ent.toArray rfl rfl _ _ (heap_alloc_new _ _) hza.out hzs.out ho.out ?_))
 have hl := run_loadVar_row (P := Tryz.prog) ((w.alloc (.cells #[.nilFunc, .nilFunc, .int .i64 0, .int .i64 0] 165 (0, 0))).setRow w.heap.size ent.toArray) w.heap.size 165 165 ent.toArray (0, 0) _ (setRow_heap _ _ _ _ _ _ (heap_alloc_new _ _)) Tryz.underlying165 rfl hza.out
 refine bodyPost_ret (v := .tuple #[.agg ent.toArray, .bool true]) (by simp [results, Tryz.results99, asAddr, hl]) rfl ⟨rfl, rowed_below' _ _ _⟩
set_option maxHeartbeats 4000000 in
set_option maxRecDepth 100000 in
theorem atE_no (w : World) (b : Nat) (k : Int) (hk : k < 1 ∨ 10 ≤ k) : Calls Tryz.prog 104 #[.slice (some ⟨b, 0, none⟩) 10 10, .int .i64 k] w fun r w' => r = .returned (.tuple #[.agg (entE 0).toArray, .bool false]) ∧ Below w.heap.size w w' := by
 have hz : Hid ((Tryz.prog.info? 175).map (·.size) = some (entE 0).length) := hid (by rw [entE_len]; exact (show (Tryz.prog.info? 175).map (·.size) = some 6 by kernel_rfl))
 have ho : Hid ((entE 0).toArray.all (·.oneCell') = true) := hid (entE_one 0)
 rcases hk with hk | hk
 all_goals
  go_enter Tryz.func104, Tryz.ntmps104
  go_wp2_with (first | (with_reducible refine wpList_store_row (o := ⟨none, _, _, _, _, _⟩) rfl _ _ _ rfl w.heap.size (entE 0).toArray rfl ?r1 _ _ (heap_alloc_new _ _) hz.out ?r2 ho.out ?_))
  refine bodyPost_ret (v := .tuple #[.agg (entE 0).toArray, .bool false]) (by simp [results, Tryz.results104, go_sem, entE]) rfl ⟨rfl, ?_⟩
  first | exact (Below.refl _ _).alloc (Nat.le_refl _) _ | exact rowed_below' _ _ _
set_option maxHeartbeats 4000000 in
set_option maxRecDepth 100000 in
theorem atE_yes (w : World) (b : Nat) (k : Nat) (hX : BoxAt w b tabE) (h1 : 1 ≤ k) (h2 : k < 10) : Calls Tryz.prog 104 #[.slice (some ⟨b, 0, none⟩) 10 10, .int .i64 (k : Int)] w fun r w' => r = .returned (.tuple #[.agg (entE k).toArray, .bool true]) ∧ Below w.heap.size w w' := by
 have hz : Hid ((Tryz.prog.info? 175).map (·.size) = some (entE k).length) := hid (by rw [entE_len]; exact (show (Tryz.prog.info? 175).map (·.size) = some 6 by kernel_rfl))
 have ho : Hid ((entE k).toArray.all (·.oneCell') = true) := hid (entE_one k)
 go_enter Tryz.func104, Tryz.ntmps104
 have B0 := (Below.refl w.heap.size w).alloc (Nat.le_refl _) (.cells #[.nilFunc, .nilFunc, .nilFunc, .nilFunc, .int .i64 0, .int .i64 0] 175 (0, 0))
 have HC : Hid (∀ (j : Nat) (u : Value), (entE k)[j]? = some u → (w.alloc (.cells #[.nilFunc, .nilFunc, .nilFunc, .nilFunc, .int .i64 0, .int .i64 0] 175 (0, 0))).cell? ⟨b, k * 6 + j, none⟩ = some u) := hid fun j u h => later B0 (hX _ u (tabE_at k j u h2 h))
 have hzs : Hid ((#[.nilFunc, .nilFunc, .nilFunc, .nilFunc, .int .i64 0, .int .i64 0] : Array Value).size = (entE k).toArray.size) := hid (show 6 = (entE k).length from (entE_len k).symm)
 have hza : Hid ((Tryz.prog.info? 175).map (·.size) = some (entE k).toArray.size) := hid hz.out
 clear B0 hX
 generalize entE k = ent at *
 go_wp2_with (first | (with_reducible refine wpList_load_at (o := ⟨some 18, _, _, _, _, _⟩) rfl _ _ rfl b (k * 6) rfl ent _ HC.out Tryz.underlying175 rfl hz.out ?_) | (with_reducible refine wpList_store_row (o := ⟨none, _, _, _, _, _⟩) rfl _ _ _ rfl w.heap.size ent.toArray rfl rfl _ _ (heap_alloc_new _ _) hza.out hzs.out ho.out ?_))
 have hl := run_loadVar_row (P := Tryz.prog) ((w.alloc (.cells #[.nilFunc, .nilFunc, .nilFunc, .nilFunc, .int .i64 0, .int .i64 0] 175 (0, 0))).setRow w.heap.size ent.toArray) w.heap.size 175 175 ent.toArray (0, 0) _ (setRow_heap _ _ _ _ _ _ (heap_alloc_new _ _)) Tryz.underlying175 rfl hza.out
 refine bodyPost_ret (v := .tuple #[.agg ent.toArray, .bool true]) (by simp [results, Tryz.results104, asAddr, hl]) rfl ⟨rfl, rowed_below' _ _ _⟩
set_option maxHeartbeats 4000000 in
set_option maxRecDepth 100000 in
theorem atS_no (w : World) (b : Nat) (k : Int) (hk : k < 1 ∨ 5 ≤ k) : Calls Tryz.prog 124 #[.slice (some ⟨b, 0, none⟩) 5 5, .int .i64 k] w fun r w' => r = .returned (.tuple #[.agg (entS 0).toArray, .bool false]) ∧ Below w.heap.size w w' := by
 have hz : Hid ((Tryz.prog.info? 190).map (·.size) = some (entS 0).length) := hid (by rw [entS_len]; exact (show (Tryz.prog.info? 190).map (·.size) = some 4 by kernel_rfl))
 have ho : Hid ((entS 0).toArray.all (·.oneCell') = true) := hid (entS_one 0)
 rcases hk with hk | hk
 all_goals
  go_enter Tryz.func124, Tryz.ntmps124
  go_wp2_with (first | (with_reducible refine wpList_store_row (o := ⟨none, _, _, _, _, _⟩) rfl _ _ _ rfl w.heap.size (entS 0).toArray rfl ?r1 _ _ (heap_alloc_new _ _) hz.out ?r2 ho.out ?_))
  refine bodyPost_ret (v := .tuple #[.agg (entS 0).toArray, .bool false]) (by simp [results, Tryz.results124, go_sem, entS]) rfl ⟨rfl, ?_⟩
  first | exact (Below.refl _ _).alloc (Nat.le_refl _) _ | exact rowed_below' _ _ _
set_option maxHeartbeats 4000000 in
set_option maxRecDepth 100000 in
theorem atS_yes (w : World) (b : Nat) (k : Nat) (hX : BoxAt w b tabS) (h1 : 1 ≤ k) (h2 : k < 5) : Calls Tryz.prog 124 #[.slice (some ⟨b, 0, none⟩) 5 5, .int .i64 (k : Int)] w fun r w' => r = .returned (.tuple #[.agg (entS k).toArray, .bool true]) ∧ Below w.heap.size w w' := by
 have hz : Hid ((Tryz.prog.info? 190).map (·.size) = some (entS k).length) := hid (by rw [entS_len]; exact (show (Tryz.prog.info? 190).map (·.size) = some 4 by kernel_rfl))
 have ho : Hid ((entS k).toArray.all (·.oneCell') = true) := hid (entS_one k)
 go_enter Tryz.func124, Tryz.ntmps124
 have B0 := (Below.refl w.heap.size w).alloc (Nat.le_refl _) (.cells #[.nilFunc, .nilFunc, .nilFunc, .nilFunc] 190 (0, 0))
 have HC : Hid (∀ (j : Nat) (u : Value), (entS k)[j]? = some u → (w.alloc (.cells #[.nilFunc, .nilFunc, .nilFunc, .nilFunc] 190 (0, 0))).cell? ⟨b, k * 4 + j, none⟩ = some u) := hid fun j u h => later B0 (hX _ u (tabS_at k j u h2 h))
 have hzs : Hid ((#[.nilFunc, .nilFunc, .nilFunc, .nilFunc] : Array Value).size = (entS k).toArray.size) := hid (show 4 = (entS k).length from (entS_len k).symm)
 have hza : Hid ((Tryz.prog.info? 190).map (·.size) = some (entS k).toArray.size) := hid hz.out
 clear B0 hX
 generalize entS k = ent at *
 go_wp2_with (first | (with_reducible refine wpList_load_at (o := ⟨some 18, _, _, _, _, _⟩) rfl _ _ rfl b (k * 4) rfl ent _ HC.out Tryz.underlying190 rfl hz.out ?_) | (with_reducible refine wpList_store_row (o := ⟨none, _, _, _, _, _⟩) rfl _ _ _ rfl w.heap.size ent.toArray rfl rfl _ _ (heap_alloc_new _ _) hza.out hzs.out ho.out ?_))
 have hl := run_loadVar_row (P := Tryz.prog) ((w.alloc (.cells #[.nilFunc, .nilFunc, .nilFunc, .nilFunc] 190 (0, 0))).setRow w.heap.size ent.toArray) w.heap.size 190 190 ent.toArray (0, 0) _ (setRow_heap _ _ _ _ _ _ (heap_alloc_new _ _)) Tryz.underlying190 rfl hza.out
 refine bodyPost_ret (v := .tuple #[.agg ent.toArray, .bool true]) (by simp [results, Tryz.results124, asAddr, hl]) rfl ⟨rfl, rowed_below' _ _ _⟩
end Go.Proofs.YtemflcojebanlaaGreatDoor.TreeC
/- Small lemmas: a struct is laid into a variable cell by cell, ahead of a call or behind it. -/
namespace Go.Proofs.YtemflcojebanlaaGreatDoor.TreeC
open Go Go.RowKit Go.Lib Go.Sort LexP TreeP LexC

theorem bcell {W w1 : World} (hb : Below W.heap.size W w1) : (∀ b o, b < W.heap.size → w1.cell? ⟨b, o, none⟩ = W.cell? ⟨b, o, none⟩) ∧ (∀ b o, b < W.heap.size → w1.frozen? ⟨b, o, none⟩ = W.frozen? ⟨b, o, none⟩) :=
 ⟨fun b o h => hb.cell (p := ⟨b, o, none⟩) h, fun b o h => hb.frozen (p := ⟨b, o, none⟩) h⟩
/-- so many cells are stored, one behind the other -/
def setN (b : Nat) : Nat → List Value → World → World
 | _, [], W => W
 | o, v :: vs, W => setN b (o + 1) vs (W.setCell ⟨b, o, none⟩ v)
theorem setN_below {B b : Nat} (hb : B ≤ b) : ∀ (vs : List Value) (o : Nat) (W : World), Below B W (setN b o vs W)
 | [], _, _ => Below.refl _ _
 | v :: vs, o, W => ((Below.refl B W).setCell (p := ⟨b, o, none⟩) hb v).trans (setN_below hb vs (o + 1) _)
theorem setN_before (b : Nat) : ∀ (vs : List Value) (o o' : Nat) (W : World), o' < o → (setN b o vs W).cell? ⟨b, o', none⟩ = W.cell? ⟨b, o', none⟩
 | [], _, _, _, _ => rfl
 | v :: vs, o, o', W, h => by
  rw [setN, setN_before b vs (o + 1) o' _ (by omega)]
  exact World.cell?_setCell_other _ _ _ _ (by intro e; simp only [Addr.mk.injEq] at e; omega)
theorem setN_some (b : Nat) : ∀ (vs : List Value) (o : Nat) (W : World), (∀ j, j < vs.length → (W.cell? ⟨b, o + j, none⟩).isSome = true) → ∀ (j : Nat) (u : Value), vs[j]? = some u → (setN b o vs W).cell? ⟨b, o + j, none⟩ = some u
 | [], _, _, _, j, u, h => by simp at h
 | v :: vs, o, W, hs, 0, u, h => by
  simp at h
  subst h
  show (setN b (o + 1) vs (W.setCell ⟨b, o, none⟩ v)).cell? ⟨b, o, none⟩ = some v
  rw [setN_before b vs (o + 1) o _ (by omega)]
  exact World.cell?_setCell_same' _ _ _ (by simpa using hs 0 (by simp))
 | v :: vs, o, W, hs, j + 1, u, h => by
  rw [setN, show o + (j + 1) = o + 1 + j by omega]
  refine setN_some b vs (o + 1) _ (fun i hi => ?_) j u (by simpa using h)
  rw [World.cell?_setCell_other _ _ _ _ (by intro e; simp only [Addr.mk.injEq] at e; omega)]
  have := hs (i + 1) (by simp; omega)
  rwa [show o + (i + 1) = o + 1 + i by omega] at this
/-- the variable was laid ahead of the call -/
theorem laid_ahead {W2 W3 : World} (zs ent : List Value) (T : TypeId) (hl : zs.length = ent.length) (hb : Below (W2.alloc (.cells zs.toArray T (0, 0))).heap.size (W2.alloc (.cells zs.toArray T (0, 0))) W3) :
  BoxAt (setN W2.heap.size 0 ent W3) W2.heap.size ent ∧ Below W2.heap.size W2 (setN W2.heap.size 0 ent W3) := by
 constructor
 ·intro j u h
  have := setN_some W2.heap.size ent 0 W3 (fun i hi => by
   rw [Nat.zero_add]
   have hz : i < zs.length := by omega
   rw [later hb (box_cell W2 zs T i zs[i] (List.getElem?_eq_getElem hz))]
   rfl) j u h
  simpa using this
 ·have h1 : Below W2.heap.size W2 (W2.alloc (.cells zs.toArray T (0, 0))) := (Below.refl _ _).alloc (Nat.le_refl _) _
  exact (h1.trans (hb.mono h1.size)).trans (setN_below (Nat.le_refl _) ent 0 W3)
/-- the variable was laid behind the call -/
theorem laid_behind {W2 W3 : World} (ent : List Value) (T : TypeId) (hb : Below W2.heap.size W2 W3) :
  BoxAt (W3.alloc (.cells ent.toArray T (0, 0))) W3.heap.size ent ∧ Below W2.heap.size W2 (W3.alloc (.cells ent.toArray T (0, 0))) :=
 ⟨BoxAt.new _ _ _, hb.alloc hb.size _⟩
theorem rightTs_all : ∀ l : List Ty, rightTs l = l.all rightT
 | [] => rfl
 | t :: ts => by rw [rightTs, rightTs_all ts, List.all_cons]
theorem rightEs_all : ∀ l : List Ex, rightEs l = l.all rightE
 | [] => rfl
 | t :: ts => by rw [rightEs, rightEs_all ts, List.all_cons]
theorem rightSs_all : ∀ l : List St, rightSs l = l.all rightS
 | [] => rfl
 | t :: ts => by rw [rightSs, rightSs_all ts, List.all_cons]
/- Contract of tree.rightExpr, for any kind: out of the contracts of what the kind asks. -/

/-- what a function answers in every later world -/
def Answers (w : World) (g : Nat) (args : Array Value) (b : Bool) : Prop := ∀ W, Below w.heap.size w W → Calls Tryz.prog g args W fun r w' => r = .returned (.bool b) ∧ Below W.heap.size W w'
set_option maxHeartbeats 8000000 in
set_option maxRecDepth 100000 in
theorem rightE_gen (w : World) (k : Nat) (num : Int) (name : ByteArray) (mt : Bool) (p : Option Addr) (L cap g0 g1 g2 g3 lo hi : Nat) (b0 b1 b2 q : Bool) (hk1 : 1 ≤ k) (hk2 : k < 10) (_hn : L ≤ 1048576) (_hlo : lo ≤ 100) (_hhi : hi ≤ 100)
  (hent : entE k = [fnV g0, fnV g1, fnV g2, fnV g3, iV lo, iV hi]) (en0 : Enters g0) (en1 : Enters g1) (en2 : Enters g2)
  (C0 : Answers w g0 #[.int .i64 num] b0) (C1 : Answers w g1 #[.string name] b1) (C2 : Answers w g2 #[.bool mt] b2)
  (CE : Answers w 105 #[.slice p L cap, .func (.func g3) #[] #[]] q) :
  Calls Tryz.prog 75 #[.agg #[.int .i64 (k : Int), .int .i64 num, .string name, .bool mt, .slice p L cap]] w fun r w' => r = .returned (.bool (b0 && b1 && b2 && decide (lo ≤ L) && decide (L ≤ hi) && q)) ∧ Below w.heap.size w w' := by
 unfold Answers at C0 C1 C2 CE
 unfold Enters at en0 en1 en2
 obtain ⟨R, hR⟩ : ∃ R, (b0 && b1 && b2 && decide (lo ≤ L) && decide (L ≤ hi) && q) = R := ⟨_, rfl⟩
 rw [hR]
 have HS := hid hR
 have H0 := hid C0
 have H1 := hid C1
 have H2 := hid C2
 have HE := hid CE
 have HEnt := hid hent
 clear hR C0 C1 C2 CE hent
 have X0 := hid (BoxAt.new w [.int .i64 (k : Int), .int .i64 num, .string name, .bool mt, .slice p L cap] 40)
 have B0 : Hid (Below w.heap.size w (w.alloc (.cells #[.int .i64 (k : Int), .int .i64 num, .string name, .bool mt, .slice p L cap] 40 (0, 0)))) := hid ((Below.refl _ _).alloc (Nat.le_refl _) _)
 have hz : Hid ((Tryz.prog.info? 176).map (·.size) = some tabE.toArray.size) := hid (show (Tryz.prog.info? 176).map (·.size) = some 60 by kernel_rfl)
 have ho : Hid (tabE.toArray.all (·.oneCell') = true) := hid (by kernel_rfl)
 go_enter Tryz.func75, Tryz.ntmps75
 go_wp2_with fail
 refine (exprKinds_any _).mono ?_
 rintro e W1 ⟨rfl, hb1⟩
 generalize w.alloc _ = W0 at *
 have X1 := hid (X0.out.later hb1)
 have B1 := hid (B0.out.trans (hb1.mono B0.out.size))
 clear hb1
 go_wp2_with (with_reducible refine wpList_store_row (o := ⟨none, _, _, _, _, _⟩) rfl _ _ _ rfl W1.heap.size tabE.toArray rfl ?r1 _ _ (heap_alloc_new _ _) hz.out ?r2 ho.out ?_)
 case r1 => rfl
 case r2 => rfl
 generalize hW2 : (World.alloc W1 _).setRow _ _ = W2
 have hb2 : Below W1.heap.size W1 W2 := by rw [← hW2]; exact rowed_below' _ _ _
 have hX2 : BoxAt W2 W1.heap.size tabE := by rw [← hW2]; exact rowed_box' _ _ _ _
 have X2 := hid (X1.out.later hb2)
 have B2 := hid (B1.out.trans (hb2.mono B1.out.size))
 have XT := hid hX2
 clear hW2 hb2 hX2
 have d0 := box_get X2.out (j := 0) rfl
 have hlt0 : w.heap.size < W2.heap.size := World.block_lt_of_cell? _ _ d0
 have hlt1 : w.heap.size ≠ W2.heap.size := by omega
 simp only [Act.put]
 have CA : Hid (∀ W, Below W2.heap.size W2 W → Calls Tryz.prog 104 #[.slice (some ⟨W1.heap.size, 0, none⟩) 10 10, .int .i64 (k : Int)] W fun r w' => r = .returned (.tuple #[.agg #[fnV g0, fnV g1, fnV g2, fnV g3, iV lo, iV hi], .bool true]) ∧ Below W.heap.size W w') :=
  hid fun W hb => by have := atE_yes W W1.heap.size k (XT.out.later hb) hk1 hk2; rw [HEnt.out] at this; exact this
 go_cut [4, 5] (fun u v wx => ∃ m : Nat, u = .pointer (some ⟨m, 0, none⟩) ∧ v = .bool true ∧ Hid (BoxAt wx m [fnV g0, fnV g1, fnV g2, fnV g3, iV lo, iV hi] ∧ Below W2.heap.size W2 wx))
 case first =>
  clear H0 H1 H2 HE en0 en1 en2 XT
  go_region_with (go_at_call 104; refine (CA.out _ ?_).mono ?_; rotate_left; rintro e W3 ⟨rfl, hb3⟩; obtain ⟨hc3, hf3⟩ := bcell hb3; rotate_left; (first | exact (Below.refl _ _).drew | exact ((Below.refl _ _).drew).alloc (Nat.le_refl _) _ | exact ((Below.refl _ _).alloc (Nat.le_refl _) _).drew))
  all_goals go_wp2_with fail
  all_goals simp only [Act.put, List.getElem_toArray, List.getElem_cons_succ, List.getElem_cons_zero, List.setIfInBounds_toArray, List.set_cons_zero, List.set_cons_succ]
  all_goals go_meet
  ·have e := laid_behind (W2 := W2) [fnV g0, fnV g1, fnV g2, fnV g3, iV lo, iV hi] 175 ⟨hb3.os, hb3.tape, hb3.output, hb3.size, hb3.block⟩
   exact ⟨_, rfl, rfl, hid e⟩
  ·have e := laid_ahead (W2 := W2) (entE 0) [fnV g0, fnV g1, fnV g2, fnV g3, iV lo, iV hi] 175 rfl ⟨hb3.os, hb3.tape, hb3.output, hb3.size, hb3.block⟩
   exact ⟨_, rfl, rfl, hid e⟩
  ·have e := laid_ahead (W2 := W2) (entE 0) [fnV g0, fnV g1, fnV g2, fnV g3, iV lo, iV hi] 175 rfl ⟨hb3.os, hb3.tape, hb3.output, hb3.size, hb3.block⟩
   exact ⟨_, rfl, rfl, hid e⟩
 case rest =>
  obtain ⟨m, rfl, rfl, hB⟩ := hcut
  have XE3 := hid hB.out.1
  have B3 := hid (B2.out.trans (hB.out.2.mono B2.out.size))
  have X3 := hid (X2.out.later hB.out.2)
  clear hB d0 hlt0 hlt1 CA XT
  have d1 := box_get X3.out (j := 1) rfl
  have a0 := box_get XE3.out (j := 0) rfl
  go_wp2_with fail
  with_reducible refine (H0.out _ B3.out).mono ?_
  rintro e W4 ⟨rfl, hb4⟩
  have B4 := hid (B3.out.trans (hb4.mono B3.out.size))
  have X4 := hid (X3.out.later hb4)
  have XE4 := hid (XE3.out.later hb4)
  clear d1 a0 hb4
  cases b0
  ·go_wp2_with fail
   go_ret
   exact ⟨ret_bool (by rw [← HS.out]; simp), B4.out⟩
  have d1 := box_get X4.out (j := 2) rfl
  have a0 := box_get XE4.out (j := 1) rfl
  go_wp2_with fail
  with_reducible refine (H1.out _ B4.out).mono ?_
  rintro e W5 ⟨rfl, hb5⟩
  have B5 := hid (B4.out.trans (hb5.mono B4.out.size))
  have X5 := hid (X4.out.later hb5)
  have XE5 := hid (XE4.out.later hb5)
  clear d1 a0 hb5
  cases b1
  ·go_wp2_with fail
   go_ret
   exact ⟨ret_bool (by rw [← HS.out]; simp), B5.out⟩
  have d1 := box_get X5.out (j := 3) rfl
  have a0 := box_get XE5.out (j := 2) rfl
  go_wp2_with fail
  with_reducible refine (H2.out _ B5.out).mono ?_
  rintro e W6 ⟨rfl, hb6⟩
  have B6 := hid (B5.out.trans (hb6.mono B5.out.size))
  have X6 := hid (X5.out.later hb6)
  have XE6 := hid (XE5.out.later hb6)
  clear d1 a0 hb6
  cases b2
  ·go_wp2_with fail
   go_ret
   exact ⟨ret_bool (by rw [← HS.out]; simp), B6.out⟩
  have d4 := box_get X6.out (j := 4) rfl
  have a3 := box_get XE6.out (j := 3) rfl
  have a4 := box_get XE6.out (j := 4) rfl
  have a5 := box_get XE6.out (j := 5) rfl
  by_cases hl : lo ≤ L
  ·by_cases hh : L ≤ hi
   ·go_wp2_with fail
    with_reducible refine (HE.out _ B6.out).mono ?_
    rintro e W7 ⟨rfl, hb7⟩
    go_wp2_with fail
    go_ret
    exact ⟨ret_bool (by rw [← HS.out]; simp [hl, hh]), B6.out.trans (hb7.mono B6.out.size)⟩
   ·go_wp2_with fail
    go_ret
    exact ⟨ret_bool (by rw [← HS.out]; simp [hl, hh]), B6.out⟩
  ·go_wp2_with fail
   go_ret
   exact ⟨ret_bool (by rw [← HS.out]; simp [hl]), B6.out⟩
/- Contracts of tree.rightPlace and tree.rightExpr. -/

theorem enE : Enters 75 := enters_of Tryz.func75 (by kernel_rfl) rfl
theorem enP : Enters 128 := enters_of Tryz.func128 (by kernel_rfl) rfl
theorem enS0 : Enters 120 := enters_of Tryz.func120 (by kernel_rfl) rfl
theorem enB0 : Enters 121 := enters_of Tryz.func121 (by kernel_rfl) rfl
theorem enI0 : Enters 126 := enters_of Tryz.func126 (by kernel_rfl) rfl
theorem enEi : Enters 122 := enters_of Tryz.func122 (by kernel_rfl) rfl
theorem enLi : Enters 125 := enters_of Tryz.func125 (by kernel_rfl) rfl
theorem enPa : Enters 127 := enters_of Tryz.func127 (by kernel_rfl) rfl
theorem enOp : Enters 129 := enters_of Tryz.func129 (by kernel_rfl) rfl
theorem enNa : Enters 68 := enters_of Tryz.func68 (by kernel_rfl) rfl
theorem Answers.later {w w' : World} {g : Nat} {args : Array Value} {b : Bool} (h : Answers w g args b) (hb : Below w.heap.size w w') : Answers w' g args b := fun W h' => h W (hb.trans (h'.mono hb.size))
theorem Answers.of_same {w : World} {g : Nat} {args : Array Value} {b : Bool} (h : ∀ W, Calls Tryz.prog g args W fun r w' => r = .returned (.bool b) ∧ W = w') : Answers w g args b := fun W _ => (h W).mono fun _ _ ⟨h1, h2⟩ => ⟨h1, below_of_eq h2⟩

set_option maxHeartbeats 2000000 in
theorem rightPlace_of (e : Ex) (w : World) (H : Answers w 75 #[e.val] (rightE e)) : Calls Tryz.prog 128 #[e.val] w fun r w' => r = .returned (.bool (e.place && rightE e)) ∧ Below w.heap.size w w' := by
 unfold Answers at H
 obtain ⟨k, num, name, mt, v, kids⟩ := e
 generalize rightE (.mk k num name mt v kids) = q at *
 simp only [Ex.val_mk] at H ⊢
 have hp : (Ex.mk k num name mt v kids).place = placeK k := rfl
 rw [hp]
 have H1 := hid H
 clear H hp
 have B0 : Hid (Below w.heap.size w (w.alloc (.cells #[.int .i64 k, .int .i64 num, .string name, .bool mt, v] 40 (0, 0)))) := hid ((Below.refl _ _).alloc (Nat.le_refl _) _)
 by_cases h2 : k = 2 ∨ k = 3 ∨ k = 4
 ·rcases h2 with rfl | rfl | rfl
  all_goals
   go_enter Tryz.func128, Tryz.ntmps128
   go_wp2_with fail
   refine (H1.out _ B0.out).mono ?_
   rintro e W1 ⟨rfl, hb1⟩
   go_wp2_with fail
   go_ret
   exact ⟨ret_bool (by simp [placeK]), B0.out.trans (hb1.mono B0.out.size)⟩
 ·have h22 : ¬ k = 2 := fun e => h2 (.inl e)
  have h23 : ¬ k = 3 := fun e => h2 (.inr (.inl e))
  have h24 : ¬ k = 4 := fun e => h2 (.inr (.inr e))
  clear h2
  go_enter Tryz.func128, Tryz.ntmps128
  go_wp2_with fail
  go_ret
  exact ⟨ret_bool (by simp [placeK, h22, h23, h24]), B0.out⟩
set_option maxHeartbeats 8000000 in
set_option maxRecDepth 100000 in
theorem rightE_no (w : World) (k : Int) (num : Int) (name : ByteArray) (mt : Bool) (v : Value) (hk : k < 1 ∨ 10 ≤ k) :
  Calls Tryz.prog 75 #[.agg #[.int .i64 k, .int .i64 num, .string name, .bool mt, v]] w fun r w' => r = .returned (.bool false) ∧ Below w.heap.size w w' := by
 have X0 := hid (BoxAt.new w [.int .i64 k, .int .i64 num, .string name, .bool mt, v] 40)
 have B0 : Hid (Below w.heap.size w (w.alloc (.cells #[.int .i64 k, .int .i64 num, .string name, .bool mt, v] 40 (0, 0)))) := hid ((Below.refl _ _).alloc (Nat.le_refl _) _)
 have hz : Hid ((Tryz.prog.info? 176).map (·.size) = some tabE.toArray.size) := hid (show (Tryz.prog.info? 176).map (·.size) = some 60 by kernel_rfl)
 have ho : Hid (tabE.toArray.all (·.oneCell') = true) := hid (by kernel_rfl)
 go_enter Tryz.func75, Tryz.ntmps75
 go_wp2_with fail
 refine (exprKinds_any _).mono ?_
 rintro e W1 ⟨rfl, hb1⟩
 generalize w.alloc _ = W0 at *
 have X1 := hid (X0.out.later hb1)
 have B1 := hid (B0.out.trans (hb1.mono B0.out.size))
 clear hb1
 go_wp2_with (with_reducible refine wpList_store_row (o := ⟨none, _, _, _, _, _⟩) rfl _ _ _ rfl W1.heap.size tabE.toArray rfl ?r1 _ _ (heap_alloc_new _ _) hz.out ?r2 ho.out ?_)
 case r1 => rfl
 case r2 => rfl
 generalize hW2 : (World.alloc W1 _).setRow _ _ = W2
 have hb2 : Below W1.heap.size W1 W2 := by rw [← hW2]; exact rowed_below' _ _ _
 have hX2 : BoxAt W2 W1.heap.size tabE := by rw [← hW2]; exact rowed_box' _ _ _ _
 have X2 := hid (X1.out.later hb2)
 have B2 := hid (B1.out.trans (hb2.mono B1.out.size))
 have XT := hid hX2
 clear hW2 hb2 hX2
 have d0 := box_get X2.out (j := 0) rfl
 have hlt0 : w.heap.size < W2.heap.size := World.block_lt_of_cell? _ _ d0
 have hlt1 : w.heap.size ≠ W2.heap.size := by omega
 simp only [Act.put]
 have CA : Hid (∀ W, Below W2.heap.size W2 W → Calls Tryz.prog 104 #[.slice (some ⟨W1.heap.size, 0, none⟩) 10 10, .int .i64 k] W fun r w' => r = .returned (.tuple #[.agg #[.nilFunc, .nilFunc, .nilFunc, .nilFunc, iV 0, iV 0], .bool false]) ∧ Below W.heap.size W w') :=
  hid fun W hb => atE_no W W1.heap.size k hk
 go_cut [4, 5] (fun u v wx => ∃ m : Nat, u = .pointer (some ⟨m, 0, none⟩) ∧ v = .bool false ∧ Hid (BoxAt wx m (entE 0) ∧ Below W2.heap.size W2 wx))
 case first =>
  clear XT
  go_region_with (go_at_call 104; refine (CA.out _ ?_).mono ?_; rotate_left; rintro e W3 ⟨rfl, hb3⟩; obtain ⟨hc3, hf3⟩ := bcell hb3; rotate_left; (first | exact (Below.refl _ _).drew | exact ((Below.refl _ _).drew).alloc (Nat.le_refl _) _ | exact ((Below.refl _ _).alloc (Nat.le_refl _) _).drew))
  all_goals go_wp2_with fail
  all_goals simp only [Act.put, List.getElem_toArray, List.getElem_cons_succ, List.getElem_cons_zero, List.setIfInBounds_toArray, List.set_cons_zero, List.set_cons_succ]
  all_goals go_meet
  ·have e := laid_behind (W2 := W2) (entE 0) 175 ⟨hb3.os, hb3.tape, hb3.output, hb3.size, hb3.block⟩
   exact ⟨_, rfl, rfl, hid e⟩
  ·have e := laid_ahead (W2 := W2) (entE 0) (entE 0) 175 rfl ⟨hb3.os, hb3.tape, hb3.output, hb3.size, hb3.block⟩
   exact ⟨_, rfl, rfl, hid e⟩
  ·have e := laid_ahead (W2 := W2) (entE 0) (entE 0) 175 rfl ⟨hb3.os, hb3.tape, hb3.output, hb3.size, hb3.block⟩
   exact ⟨_, rfl, rfl, hid e⟩
 case rest =>
  obtain ⟨m, rfl, rfl, hB⟩ := hcut
  have B3 := hid (B2.out.trans (hB.out.2.mono B2.out.size))
  clear hB d0 hlt0 hlt1 CA XT
  go_wp2_with fail
  go_ret
  exact ⟨rfl, B3.out⟩

theorem eq_none (a A : Bool) (L : Nat) : (a && decide (0 ≤ L) && decide (L ≤ 0) && (A && decide (L ≤ 30))) = (A && (a && L == 0)) := by
 cases L with
 | zero => cases a <;> cases A <;> rfl
 | succ L => cases a <;> cases A <;> simp
theorem eq_n1 (a A : Bool) (L n : Nat) (hn : n ≤ 30) : (a && decide (n ≤ L) && decide (L ≤ n) && (A && decide (L ≤ 30))) = (A && (a && L == n)) := by
 rw [Bool.eq_iff_iff]
 simp only [Bool.and_eq_true, decide_eq_true_eq, beq_iff_eq]
 constructor
 ·rintro ⟨⟨⟨h1, h2⟩, h3⟩, h4, h5⟩; exact ⟨h4, h1, by omega⟩
 ·rintro ⟨h4, h1, h2⟩; exact ⟨⟨⟨h1, by omega⟩, by omega⟩, h4, by omega⟩
theorem eq_one (a A : Bool) (L : Nat) : (a && decide (1 ≤ L) && decide (L ≤ 1) && (A && decide (L ≤ 30))) = (A && (a && L == 1)) := eq_n1 a A L 1 (by omega)
theorem eq_place (a P A : Bool) (L : Nat) : (a && decide (1 ≤ L) && decide (L ≤ 1) && ((P && A) && decide (L ≤ 30))) = (A && (a && L == 1 && P)) := by
 rw [eq_one]; cases P <;> cases A <;> simp
theorem eq_lend (a P A : Bool) (L : Nat) : (a && true && decide (1 ≤ L) && decide (L ≤ 1) && ((P && A) && decide (L ≤ 30))) = (A && (a && L == 1 && P)) := by
 rw [Bool.and_true, eq_place]
theorem eq_row (a A : Bool) (L : Nat) : (a && decide (2 ≤ L) && decide (L ≤ 30) && (A && decide (L ≤ 30))) = (A && (a && decide (2 ≤ L) && decide (L ≤ 30))) := by
 cases A <;> cases decide (L ≤ 30) <;> simp
theorem eq_oper (a o b A : Bool) (L : Nat) : (a && o && b && decide (2 ≤ L) && decide (L ≤ 2) && (A && decide (L ≤ 30))) = (A && (a && b && L == 2 && o)) := by
 rw [eq_n1 _ _ _ 2 (by omega)]; cases o <;> cases b <;> cases a <;> cases A <;> simp
theorem eq_call (a o b A : Bool) (L : Nat) : (a && o && b && decide (0 ≤ L) && decide (L ≤ 30) && (A && decide (L ≤ 30))) = (A && (a && b && decide (L ≤ 30) && o)) := by
 rw [show decide (0 ≤ L) = true from decide_eq_true (Nat.zero_le _)]
 cases A <;> cases decide (L ≤ 30) <;> cases o <;> cases b <;> cases a <;> rfl
theorem all_and {α : Type} (f g : α → Bool) (l : List α) : l.all (fun x => f x && g x) = (l.all f && l.all g) := by
 induction l with
 | nil => rfl
 | cons x l ih => simp only [List.all_cons, ih]; cases f x <;> cases g x <;> simp
theorem ex_ones {w : World} {x : Ex} (h : x.In w) : Ones x.cells := by
 obtain ⟨k', n', l', m', v', ks'⟩ := x
 rw [Ex.In] at h
 obtain ⟨p, c, rfl, _⟩ := h.2.1
 exact (show Ones [.int .i64 k', .int .i64 n', .string l', .bool m', .slice p (List.map Ex.cells ks').length c] from by unfold Ones; simp [Value.oneCell'])
set_option maxHeartbeats 4000000 in
theorem rightE_any : ∀ (n : Nat) (t : Ex) (w : World), wE t ≤ n → n ≤ 1048576 → t.In w → Tabs w → Calls Tryz.prog 75 #[t.val] w fun r w' => r = .returned (.bool (rightE t)) ∧ Below w.heap.size w w' := by
 intro n
 induction n with
 | zero => intro t w h; obtain ⟨k, num, name, mt, v, kids⟩ := t; rw [wE] at h; omega
 | succ n ih =>
  intro t w hw hn hin T
  obtain ⟨k, num, name, mt, v, kids⟩ := t
  rw [wE] at hw
  rw [Ex.In] at hin
  obtain ⟨_, hl, hk⟩ := hin
  have hlen := wEs_len kids
  have hkid : ∀ x ∈ kids, ∀ W, Below w.heap.size w W → Calls Tryz.prog 75 #[.agg x.cells.toArray] W fun r w' => r = .returned (.bool (rightE x)) ∧ Below W.heap.size W w' := fun x hx W hb => by
   obtain ⟨i, hi, e⟩ := List.mem_iff_getElem.1 hx
   have := wEs_get kids i x (by rw [List.getElem?_eq_getElem hi, e])
   exact ih x W (by omega) (by omega) (Ex.In.keep (Keeps.of_below hb) x ((Ex.ins_iff w kids).1 hk x hx)) (T.below hb)
  have C1 : Answers w 105 #[v, .func (.func 75) #[] #[]] (kids.all rightE && decide (kids.length ≤ 30)) := fun W hb =>
   every_exSize 75 rightE enE W v kids (hl.keep (Keeps.of_below hb)) (by omega) (fun x hx => ex_ones ((Ex.ins_iff w kids).1 hk x hx)) (fun x hx W' hb' => hkid x hx W' (hb.trans (hb'.mono hb.size)))
  have C2 : Answers w 105 #[v, .func (.func 128) #[] #[]] (kids.all (fun x => x.place && rightE x) && decide (kids.length ≤ 30)) := fun W hb =>
   every_exSize 128 (fun x => x.place && rightE x) enP W v kids (hl.keep (Keeps.of_below hb)) (by omega) (fun x hx => ex_ones ((Ex.ins_iff w kids).1 hk x hx))
    (fun x hx W' hb' => rightPlace_of x W' (fun W2 hb2 => hkid x hx W2 ((hb.trans (hb'.mono hb.size)).trans (hb2.mono (hb.trans (hb'.mono hb.size)).size))))
  rw [all_and] at C2
  obtain ⟨p, cap, rfl, hcap, _⟩ := id hl
  rw [List.length_map] at *
  have cLi : Answers w 125 #[.int .i64 num] _ := Answers.of_same fun W => isLit_any num W
  have cI0 : Answers w 126 #[.int .i64 num] _ := Answers.of_same fun W => noneI_any num W
  have cPa : Answers w 127 #[.int .i64 num] _ := Answers.of_same fun W => isPart_any num W
  have cS0 : Answers w 120 #[.string name] _ := Answers.of_same fun W => noneS_any name W
  have cNa : Answers w 68 #[.string name] (nameB (bs name)) := fun W hb => isName_any name W (by omega) (T.below hb)
  have cOp : Answers w 129 #[.string name] _ := Answers.of_same fun W => isOper_any name W
  have cB0 : Answers w 121 #[.bool mt] _ := Answers.of_same fun W => noneB_any mt W
  have cEi : Answers w 122 #[.bool mt] _ := Answers.of_same fun W => either_any mt W
  rw [rightE, rightEs_all]
  simp only [Ex.val_mk]
  by_cases hk5 : k < 1 ∨ 10 ≤ k
  ·have h := rightE_no w k num name mt (.slice p kids.length cap) hk5
   have e : (kids.all rightE && askE k num (bs name) mt kids.length (kids.all Ex.place)) = false := by
    unfold askE
    rw [if_neg (by omega), if_neg (by omega), if_neg (by omega), if_neg (by omega), if_neg (by omega), if_neg (by omega), if_neg (by omega), if_neg (by omega), if_neg (by omega), Bool.and_false]
   rw [e]
   exact h
  ·obtain ⟨m, rfl⟩ : ∃ m : Nat, k = (m : Int) := ⟨k.toNat, by omega⟩
   have go : ∀ {b c : Bool}, b = c → (Calls Tryz.prog 75 #[.agg #[.int .i64 (m : Int), .int .i64 num, .string name, .bool mt, .slice p kids.length cap]] w fun r w' => r = .returned (.bool b) ∧ Below w.heap.size w w') → (Calls Tryz.prog 75 #[.agg #[.int .i64 (m : Int), .int .i64 num, .string name, .bool mt, .slice p kids.length cap]] w fun r w' => r = .returned (.bool c) ∧ Below w.heap.size w w') := fun e h => e ▸ h
   rcases (show m = 1 ∨ m = 2 ∨ m = 3 ∨ m = 4 ∨ m = 5 ∨ m = 6 ∨ m = 7 ∨ m = 8 ∨ m = 9 by omega) with rfl | rfl | rfl | rfl | rfl | rfl | rfl | rfl | rfl
   ·refine go ?_ (rightE_gen w 1 num name mt p kids.length cap _ _ _ _ 0 0 _ _ _ _ (by omega) (by omega) (by omega) (by omega) (by omega) rfl enLi enS0 enB0 cLi cS0 cB0 C1)
    exact eq_none _ _ _
   ·refine go ?_ (rightE_gen w 2 num name mt p kids.length cap _ _ _ _ 0 0 _ _ _ _ (by omega) (by omega) (by omega) (by omega) (by omega) rfl enI0 enNa enB0 cI0 cNa cB0 C1)
    exact eq_none _ _ _
   ·refine go ?_ (rightE_gen w 3 num name mt p kids.length cap _ _ _ _ 1 1 _ _ _ _ (by omega) (by omega) (by omega) (by omega) (by omega) rfl enPa enS0 enB0 cPa cS0 cB0 C2)
    exact eq_place _ _ _ _
   ·refine go ?_ (rightE_gen w 4 num name mt p kids.length cap _ _ _ _ 1 1 _ _ _ _ (by omega) (by omega) (by omega) (by omega) (by omega) rfl enI0 enS0 enB0 cI0 cS0 cB0 C2)
    exact eq_place _ _ _ _
   ·refine go ?_ (rightE_gen w 5 num name mt p kids.length cap _ _ _ _ 1 1 _ _ _ _ (by omega) (by omega) (by omega) (by omega) (by omega) rfl enI0 enS0 enEi cI0 cS0 cEi C2)
    exact eq_lend _ _ _ _
   ·refine go ?_ (rightE_gen w 6 num name mt p kids.length cap _ _ _ _ 1 1 _ _ _ _ (by omega) (by omega) (by omega) (by omega) (by omega) rfl enI0 enS0 enB0 cI0 cS0 cB0 C1)
    exact eq_one _ _ _
   ·refine go ?_ (rightE_gen w 7 num name mt p kids.length cap _ _ _ _ 2 30 _ _ _ _ (by omega) (by omega) (by omega) (by omega) (by omega) rfl enI0 enS0 enB0 cI0 cS0 cB0 C1)
    exact eq_row _ _ _
   ·refine go ?_ (rightE_gen w 8 num name mt p kids.length cap _ _ _ _ 2 2 _ _ _ _ (by omega) (by omega) (by omega) (by omega) (by omega) rfl enI0 enOp enB0 cI0 cOp cB0 C1)
    exact eq_oper _ _ _ _ _
   ·refine go ?_ (rightE_gen w 9 num name mt p kids.length cap _ _ _ _ 0 30 _ _ _ _ (by omega) (by omega) (by omega) (by omega) (by omega) rfl enI0 enNa enB0 cI0 cNa cB0 C1)
    exact eq_call _ _ _ _ _
end Go.Proofs.YtemflcojebanlaaGreatDoor.TreeC
