/- Texts joined: TreeTM, TreeTN, TreeTO, TreeTP, TreeTR. -/
import Derived.Test.YtemflcojebanlaaGreatDoorJ07
/- Contracts of tree.strength, tree.inOperParens, tree.inParens. -/
namespace Go.Proofs.YtemflcojebanlaaGreatDoor.TreeC
open Go Go.RowKit Go.Lib Go.Sort LexP TreeP LexC

/-- does the i-th kid, of strength t, of an operation of strength s stand in parentheses? -/
def operParens (s t i : Nat) : Bool := if 1 < i then false else if s = 1 then t == 1 else if i = 0 then decide (t < s) else decide (t ≤ s)
def parensB (k : Int) (s : Nat) (kid : Ex) (i : Nat) : Bool := if k = 3 then kid.kind == 4 else if k = 6 then kid.kind == 8 else if k = 8 then operParens s kid.str i else false
theorem operParens_aside (s t i : Nat) (hi : i < 2) : operParens s t i = asideB s t i := by
 unfold operParens asideB
 rw [if_neg (by omega)]
 by_cases hs : s = 1
 ·rw [if_pos hs, if_pos hs]
 ·rw [if_neg hs, if_neg hs]
  rcases (show i = 0 ∨ i = 1 by omega) with rfl | rfl
  ·simp
  ·rw [if_neg (by omega), Bool.eq_iff_iff]; simp; omega

set_option maxHeartbeats 1000000 in
theorem strength_any (e : Ex) (w : World) : Calls Tryz.prog 134 #[e.val] w fun r w' => r = .returned (.int .i64 (e.str : Int)) ∧ Below w.heap.size w w' := by
 obtain ⟨k, num, name, mt, v, kids⟩ := e
 have ho := str_of k name
 simp only [Ex.val_mk, Ex.str, Ex.kind, Ex.name]
 obtain ⟨S, hS⟩ : ∃ S, strK k (bs name) = S := ⟨_, rfl⟩
 rw [hS] at ho ⊢
 clear hS
 cases a0 : (k == 8)
 ·have H := ho 4 (by rw [a0]; rfl)
  clear ho
  subst H
  have hk : ¬ k = 8 := by simpa using a0
  go_enter Tryz.func134, Tryz.ntmps134
  go_wp2
  go_ret
  exact ⟨rfl, (Below.refl _ _).alloc (Nat.le_refl _) _⟩
 rw [beq_iff_eq] at a0
 subst a0
 cases a1 : (name.toList == [60])
 case true =>
  have H := ho 1 (by rw [a1]; rfl)
  clear ho
  subst H
  go_enter Tryz.func134, Tryz.ntmps134
  go_wp2
  go_ret
  exact ⟨rfl, (Below.refl _ _).alloc (Nat.le_refl _) _⟩
 cases a2 : (name.toList == [61, 61])
 case true =>
  have H := ho 1 (by rw [a2, a1]; rfl)
  clear ho
  subst H
  go_enter Tryz.func134, Tryz.ntmps134
  go_wp2
  go_ret
  exact ⟨rfl, (Below.refl _ _).alloc (Nat.le_refl _) _⟩
 cases a3 : (name.toList == [43])
 case true =>
  have H := ho 2 (by rw [a3, a1, a2]; rfl)
  clear ho
  subst H
  go_enter Tryz.func134, Tryz.ntmps134
  go_wp2
  go_ret
  exact ⟨rfl, (Below.refl _ _).alloc (Nat.le_refl _) _⟩
 cases a4 : (name.toList == [45])
 case true =>
  have H := ho 2 (by rw [a4, a1, a2, a3]; rfl)
  clear ho
  subst H
  go_enter Tryz.func134, Tryz.ntmps134
  go_wp2
  go_ret
  exact ⟨rfl, (Below.refl _ _).alloc (Nat.le_refl _) _⟩
 cases a5 : (name.toList == [42])
 case true =>
  have H := ho 3 (by rw [a5, a1, a2, a3, a4]; rfl)
  clear ho
  subst H
  go_enter Tryz.func134, Tryz.ntmps134
  go_wp2
  go_ret
  exact ⟨rfl, (Below.refl _ _).alloc (Nat.le_refl _) _⟩
 cases a6 : (name.toList == [47])
 case true =>
  have H := ho 3 (by rw [a6, a1, a2, a3, a4, a5]; rfl)
  clear ho
  subst H
  go_enter Tryz.func134, Tryz.ntmps134
  go_wp2
  go_ret
  exact ⟨rfl, (Below.refl _ _).alloc (Nat.le_refl _) _⟩
 case false =>
  have H := ho 4 (by rw [a1, a2, a3, a4, a5, a6]; rfl)
  clear ho
  subst H
  go_enter Tryz.func134, Tryz.ntmps134
  go_wp2
  go_ret
  exact ⟨rfl, (Below.refl _ _).alloc (Nat.le_refl _) _⟩

set_option maxHeartbeats 1000000 in
theorem inOperParens_any (s t i : Nat) (w : World) : Calls Tryz.prog 133 #[.int .i64 (s : Int), .int .i64 (t : Int), .int .i64 (i : Int)] w fun r w' => r = .returned (.bool (operParens s t i)) ∧ w = w' := by
 obtain ⟨R, hR⟩ : ∃ R, operParens s t i = R := ⟨_, rfl⟩
 rw [hR]
 have HR := hid hR
 clear hR
 by_cases h1 : 1 < i
 ·go_enter Tryz.func133, Tryz.ntmps133
  go_wp2
  go_ret
  exact ⟨ret_bool (by rw [← HR.out]; unfold operParens; rw [if_pos h1]), rfl⟩
 by_cases hs : s = 1
 ·subst hs
  go_enter Tryz.func133, Tryz.ntmps133
  go_wp2
  go_ret
  exact ⟨ret_bool (by rw [← HR.out]; unfold operParens; rw [if_neg h1, if_pos rfl, Bool.eq_iff_iff]; simp; omega), rfl⟩
 have hs1 : ((s : Int) == 1) = false := by simp; omega
 by_cases h0 : i = 0
 ·subst h0
  go_enter Tryz.func133, Tryz.ntmps133
  go_wp2
  go_ret
  exact ⟨ret_bool (by rw [← HR.out]; unfold operParens; rw [if_neg h1, if_neg hs, if_pos rfl, Bool.eq_iff_iff] <;> simp), rfl⟩
 ·have h00 : ((i : Int) == 0) = false := by simp; omega
  go_enter Tryz.func133, Tryz.ntmps133
  go_wp2
  go_ret
  exact ⟨ret_bool (by rw [← HR.out]; unfold operParens; rw [if_neg h1, if_neg hs, if_neg h0, Bool.eq_iff_iff] <;> simp), rfl⟩

set_option maxHeartbeats 4000000 in
set_option maxRecDepth 100000 in
theorem inParens_any (e t : Ex) (j : Nat) (w : World) (hin : e.In w) (ht : e.kids[j]? = some t) (hlen : e.kids.length ≤ 1048576) :
  Calls Tryz.prog 117 #[e.val, .int .i64 (j : Int)] w fun r w' => r = .returned (.bool (parensB e.kind e.str t j)) ∧ Below w.heap.size w w' := by
 have hj : j < e.kids.length := (List.getElem?_eq_some_iff.1 ht).1
 have ce := fun W => strength_any e W
 have ct := fun W => strength_any t W
 have ez := exSize e
 have tz := exSize t
 obtain ⟨k, num, name, mt, v, kids⟩ := e
 rw [Ex.In] at hin
 obtain ⟨_, hl, hks⟩ := hin
 have hon := ex_ones ((Ex.ins_iff w kids).1 hks t (List.mem_of_getElem? ht))
 unfold Ones at hon
 obtain ⟨b, off, cap, rfl, hcap, hx⟩ := hl.at (i := j) (by rw [List.length_map]; exact hj)
 rw [List.length_map] at *
 have hx' : ∀ (i : Nat) (u : Value), t.cells[i]? = some u → w.cell? ⟨b, off + j * 5 + i, none⟩ = some u := hx j t.cells (by rw [List.getElem?_map]; rw [show kids[j]? = some t from ht]; rfl)
 obtain ⟨R, hR⟩ : ∃ R, parensB k (Ex.mk k num name mt (.slice (some ⟨b, off, none⟩) kids.length cap) kids).str t j = R := ⟨_, rfl⟩
 rw [show (Ex.mk k num name mt (.slice (some ⟨b, off, none⟩) kids.length cap) kids).kind = k from rfl, hR]
 unfold parensB at hR
 rw [show Ex.kids (.mk k num name mt (.slice (some ⟨b, off, none⟩) kids.length cap) kids) = kids from rfl] at *
 have y0 : (Ex.mk k num name mt (.slice (some ⟨b, off, none⟩) kids.length cap) kids).cells[0]? = some (.int .i64 k) := rfl
 have y4 : (Ex.mk k num name mt (.slice (some ⟨b, off, none⟩) kids.length cap) kids).cells[4]? = some (.slice (some ⟨b, off, none⟩) kids.length cap) := rfl
 have t0 : t.cells[0]? = some (.int .i64 t.kind) := by obtain ⟨k', n', l', m', v', ks'⟩ := t; rfl
 unfold Ex.val at ce ct ⊢
 generalize (Ex.mk k num name mt (.slice (some ⟨b, off, none⟩) kids.length cap) kids).str = s at *
 generalize (Ex.mk k num name mt (.slice (some ⟨b, off, none⟩) kids.length cap) kids).cells = cs at *
 generalize t.str = u at *
 generalize t.kind = tk at *
 generalize hct : t.cells = ts at *
 clear hct ht hx hl hks
 generalize kids.length = L at *
 have X0 := hid (BoxAt.new w cs 40)
 have B0 := hid (show Below w.heap.size w (w.alloc (.cells cs.toArray 40 (0, 0))) from (Below.refl _ _).alloc (Nat.le_refl _) _)
 have HT0 : Hid (∀ (i : Nat) (u : Value), ts[i]? = some u → (w.alloc (.cells cs.toArray 40 (0, 0))).cell? ⟨b, off + j * 5 + i, none⟩ = some u) := hid fun i u h => later B0.out (hx' i u h)
 have HS := hid hR
 have HY := hid (And.intro y0 (And.intro y4 t0))
 have CE := hid ce
 have CT := hid ct
 have EZ := hid ez
 have TZ := hid tz
 have HON := hid hon
 have ZA : Hid ((Tryz.prog.info? 40).map (·.size) = some ts.toArray.size) := hid (by rw [List.size_toArray]; exact tz)
 have ZO : Hid ((#[.int .i64 0, .int .i64 0, .string ⟨#[]⟩, .bool false, .slice none 0 0] : Array Value).size = ts.toArray.size) := hid (by
  rw [show (Tryz.prog.info? 40).map (·.size) = some 5 by kernel_rfl] at tz
  exact Option.some.inj tz)
 clear hx' hR ce ct ez tz y0 y4 t0 hon
 have d4 := box_get X0.out HY.out.2.1
 have hb2 : Below (w.alloc (.cells cs.toArray 40 (0, 0))).heap.size (w.alloc (.cells cs.toArray 40 (0, 0))) (((w.alloc (.cells cs.toArray 40 (0, 0))).alloc (.cells #[.int .i64 0, .int .i64 0, .string ⟨#[]⟩, .bool false, .slice none 0 0] 40 (0, 0))).setRow (w.alloc (.cells cs.toArray 40 (0, 0))).heap.size ts.toArray) := rowed_below' _ _ _
 have hX2 : BoxAt (((w.alloc (.cells cs.toArray 40 (0, 0))).alloc (.cells #[.int .i64 0, .int .i64 0, .string ⟨#[]⟩, .bool false, .slice none 0 0] 40 (0, 0))).setRow (w.alloc (.cells cs.toArray 40 (0, 0))).heap.size ts.toArray) (w.alloc (.cells cs.toArray 40 (0, 0))).heap.size ts := rowed_box' _ _ _ _
 have hsz : (w.alloc (.cells cs.toArray 40 (0, 0))).heap.size = w.heap.size + 1 := Array.size_push ..
 have hN := heap_alloc_new (w.alloc (.cells cs.toArray 40 (0, 0))) (.cells #[.int .i64 0, .int .i64 0, .string ⟨#[]⟩, .bool false, .slice none 0 0] 40 (0, 0))
 have xe2 := X0.out.later hb2
 have b2 := B0.out.trans (hb2.mono B0.out.size)
 rw [hsz] at hN xe2 b2 hX2
 have XE2 := hid xe2
 have B2 := hid b2
 have XT2 := hid hX2
 have HN := hid hN
 clear hsz xe2 b2 hN
 clear hb2 hX2
 have d0 := box_get XE2.out HY.out.1
 have t0 := box_get XT2.out HY.out.2.2
 by_cases k3 : k = 3
 ·subst k3
  go_enter Tryz.func117, Tryz.ntmps117
  go_wp2_with (first | (with_reducible refine wpList_load_at (o := ⟨some 10, _, _, _, _, _⟩) rfl _ _ rfl b (off + j * 5) rfl ts _ HT0.out Tryz.underlying40 rfl TZ.out ?_) | (with_reducible refine wpList_store_row (o := ⟨none, _, _, _, _, _⟩) rfl _ _ _ rfl (w.heap.size + 1) ts.toArray rfl rfl _ _ HN.out ZA.out ZO.out HON.out ?_))
  go_ret
  exact ⟨ret_bool (by rw [← HS.out]; simp), B2.out⟩
 by_cases k6 : k = 6
 ·subst k6
  go_enter Tryz.func117, Tryz.ntmps117
  go_wp2_with (first | (with_reducible refine wpList_load_at (o := ⟨some 10, _, _, _, _, _⟩) rfl _ _ rfl b (off + j * 5) rfl ts _ HT0.out Tryz.underlying40 rfl TZ.out ?_) | (with_reducible refine wpList_store_row (o := ⟨none, _, _, _, _, _⟩) rfl _ _ _ rfl (w.heap.size + 1) ts.toArray rfl rfl _ _ HN.out ZA.out ZO.out HON.out ?_))
  go_ret
  exact ⟨ret_bool (by rw [← HS.out]; simp), B2.out⟩
 by_cases k8 : k = 8
 ·subst k8
  clear t0
  have CO := hid (fun W => inOperParens_any s u j W)
  go_enter Tryz.func117, Tryz.ntmps117
  go_wp2_with (first | (with_reducible refine wpList_load_at (o := ⟨some 10, _, _, _, _, _⟩) rfl _ _ rfl b (off + j * 5) rfl ts _ HT0.out Tryz.underlying40 rfl TZ.out ?_) | (with_reducible refine wpList_store_row (o := ⟨none, _, _, _, _, _⟩) rfl _ _ _ rfl (w.heap.size + 1) ts.toArray rfl rfl _ _ HN.out ZA.out ZO.out HON.out ?_))
  generalize World.setRow _ (w.heap.size + 1) ts.toArray = W2 at *
  try simp only [Act.put]
  have cE := hid (fun d os => Calls.regrown_of (CE.out (grow (redrawn W2 d) os)))
  have cT := hid (fun d os => Calls.regrown_of (CT.out (grow (redrawn W2 d) os)))
  have cO := hid (fun d os => Calls.regrown_of ((CO.out (grow (redrawn W2 d) os)).mono fun e w' ⟨h1, h2⟩ => ⟨h1, below_of_eq h2⟩))
  have P1 := hid (reg_cells (w := W2) (b := w.heap.size) (off := 0) (fun j u h => by rw [Nat.zero_add]; exact XE2.out j u h))
  have P2 := hid (reg_cells (w := W2) (b := w.heap.size + 1) (off := 0) (fun j u h => by rw [Nat.zero_add]; exact XT2.out j u h))
  clear CE CT CO XE2 XT2
  refine wp_region_quiet_below (by kernel_rfl) (by kernel_rfl) ?_
  repeat (first | ((with_reducible refine wpQuiet_load_at (o := ⟨some 25, _, _, _, _, _⟩) rfl _ _ rfl w.heap.size 0 rfl cs _ P1.out Tryz.underlying40 rfl EZ.out ?_); simp only [Act.put, List.setIfInBounds_toArray, List.set_cons_zero, List.set_cons_succ]) | ((with_reducible refine wpQuiet_load_at (o := ⟨some 27, _, _, _, _, _⟩) rfl _ _ rfl (w.heap.size + 1) 0 rfl ts _ P2.out Tryz.underlying40 rfl TZ.out ?_); simp only [Act.put, List.setIfInBounds_toArray, List.set_cons_zero, List.set_cons_succ]) | go_big_quiet_step (first | (with_reducible exact cE.out _ _) | (with_reducible exact cT.out _ _) | (with_reducible exact cO.out _ _)))
  refine wpQuiet_nil ?_
  intro _ hw'
  obtain ⟨⟨dq, osq⟩, hw''⟩ := hw'
  subst hw''
  go_wp2_with fail
  go_ret
  exact ⟨ret_bool (by rw [← HS.out]; simp), B2.out.trans ((below_regrown W2 dq osq).mono B2.out.size)⟩
 ·go_enter Tryz.func117, Tryz.ntmps117
  go_wp2_with (first | (with_reducible refine wpList_load_at (o := ⟨some 10, _, _, _, _, _⟩) rfl _ _ rfl b (off + j * 5) rfl ts _ HT0.out Tryz.underlying40 rfl TZ.out ?_) | (with_reducible refine wpList_store_row (o := ⟨none, _, _, _, _, _⟩) rfl _ _ _ rfl (w.heap.size + 1) ts.toArray rfl rfl _ _ HN.out ZA.out ZO.out HON.out ?_))
  go_ret
  exact ⟨ret_bool (by rw [← HS.out, if_neg k3, if_neg k6, if_neg k8]), B2.out⟩
/- Contract of tree.inType. -/

/-- things that stand in a program at one level: the slice that holds them, and the things -/
structure Shelf (α : Type) where
 level : Nat
 v : Value
 list : List α
def Shelf.cells {α : Type} (s : Shelf α) : List Value := [.int .i64 (s.level : Int), s.v]
/-- what is in a type that stands at a level -/
def inT (t : Ty) (n : Nat) : List (Shelf Ty) := match t with
 | .mk k _ _ v kids => if k < 2 ∨ 4 < k then [] else [⟨n + 1, v, kids⟩]

theorem lies_none {w : World} {size : Nat} : Lies w size (.slice none 0 0) [] := ⟨none, 0, rfl, Nat.le_refl _, fun h => absurd rfl h⟩
theorem lies_one {w : World} {b : Nat} {cs : List Value} (h : BoxAt w b cs) : Lies w cs.length (.slice (some ⟨b, 0, none⟩) 1 1) [cs] :=
 ⟨some ⟨b, 0, none⟩, 1, rfl, Nat.le_refl _, fun _ => ⟨b, 0, rfl, fun i c hi j u hj => by
  match i, hi with
  | 0, hi =>
   rw [List.getElem?_cons_zero] at hi
   cases hi
   rw [Nat.zero_mul, Nat.zero_add]; try rw [Nat.zero_add]
   exact h j u hj
  | i + 1, hi => simp at hi⟩⟩

/-- a slice without an address is nil -/
def NilOk (v : Value) : Prop := ∀ n c, v = .slice none n c → n = 0 ∧ c = 0
def LiesN (w : World) (size : Nat) (v : Value) (xs : List (List Value)) : Prop := Lies w size v xs ∧ NilOk v
theorem liesN_none {w : World} {size : Nat} : LiesN w size (.slice none 0 0) [] := ⟨lies_none, fun n c h => by injection h with _ h1 h2; exact ⟨h1.symm, h2.symm⟩⟩
theorem liesN_one {w : World} {b : Nat} {cs : List Value} (h : BoxAt w b cs) : LiesN w cs.length (.slice (some ⟨b, 0, none⟩) 1 1) [cs] := ⟨lies_one h, fun n c h => by injection h with h0; cases h0⟩

set_option maxHeartbeats 2000000 in
theorem inType_any (t : Ty) (n : Nat) (w : World) (hn : n ≤ 4194304) (hin : t.In w) : Calls Tryz.prog 63 #[t.val, .int .i64 (n : Int)] w fun r w' => ∃ v, r = .returned v ∧ LiesN w' 2 v ((inT t n).map Shelf.cells) ∧ Below w.heap.size w w' := by
 obtain ⟨k, l, m, v, kids⟩ := t
 rw [Ty.In] at hin
 obtain ⟨p, cap, rfl, _⟩ := hin.1
 clear hin
 generalize (List.map Ty.cells kids).length = L
 rw [Ty.val_mk]
 have B0 := hid (show Below w.heap.size w (w.alloc (.cells #[.int .i64 k, .string l, .bool m, .slice p L cap] 34 (0, 0))) from (Below.refl _ _).alloc (Nat.le_refl _) _)
 by_cases hk : k < 2 ∨ 4 < k
 ·rw [show inT (.mk k l m (.slice p L cap) kids) n = [] from if_pos hk]
  have h2 : (k == 2) = false := by simp; omega
  have h3 : (k == 3) = false := by simp; omega
  have h4 : (k == 4) = false := by simp; omega
  clear hk
  go_enter Tryz.func63, Tryz.ntmps63
  go_wp2_with fail
  go_ret
  exact ⟨_, rfl, liesN_none, B0.out⟩
 ·rw [show inT (.mk k l m (.slice p L cap) kids) n = [⟨n + 1, .slice p L cap, kids⟩] from if_neg hk]
  rcases (show k = 2 ∨ k = 3 ∨ k = 4 by omega) with rfl | rfl | rfl
  ·clear hk
   go_enter Tryz.func63, Tryz.ntmps63
   go_wp2_with fail
   go_ret
   have hB := BoxAt.new (w.alloc (.cells #[.int .i64 2, .string l, .bool m, .slice p L cap] 34 (0, 0))) [.int .i64 ((n : Int) + 1), .slice p L cap] 123
   rw [show (w.alloc (.cells #[.int .i64 2, .string l, .bool m, .slice p L cap] 34 (0, 0))).heap.size = w.heap.size + 1 from Array.size_push ..] at hB
   exact ⟨_, rfl, liesN_one hB, B0.out.alloc (by have := B0.out.size; omega) _⟩
  ·clear hk
   go_enter Tryz.func63, Tryz.ntmps63
   go_wp2_with fail
   go_ret
   have hB := BoxAt.new (w.alloc (.cells #[.int .i64 3, .string l, .bool m, .slice p L cap] 34 (0, 0))) [.int .i64 ((n : Int) + 1), .slice p L cap] 123
   rw [show (w.alloc (.cells #[.int .i64 3, .string l, .bool m, .slice p L cap] 34 (0, 0))).heap.size = w.heap.size + 1 from Array.size_push ..] at hB
   exact ⟨_, rfl, liesN_one hB, B0.out.alloc (by have := B0.out.size; omega) _⟩
  ·clear hk
   go_enter Tryz.func63, Tryz.ntmps63
   go_wp2_with fail
   go_ret
   have hB := BoxAt.new (w.alloc (.cells #[.int .i64 4, .string l, .bool m, .slice p L cap] 34 (0, 0))) [.int .i64 ((n : Int) + 1), .slice p L cap] 123
   rw [show (w.alloc (.cells #[.int .i64 4, .string l, .bool m, .slice p L cap] 34 (0, 0))).heap.size = w.heap.size + 1 from Array.size_push ..] at hB
   exact ⟨_, rfl, liesN_one hB, B0.out.alloc (by have := B0.out.size; omega) _⟩
/- Contract of tree.inExpr, out of one of tree.inOper; what is in an expression, as plain shelves. -/

/-- of a slice of expressions, the one at i, as a slice of its own -/
def oneOf (v : Value) (i : Nat) : Value := match v with
 | .slice (some a) _ cap => .slice (some ⟨a.block, a.off + i * 5, none⟩) 1 (cap - i)
 | _ => v
def operKids (s n : Nat) (v : Value) : Nat → List Ex → List (Shelf Ex)
 | _, [] => []
 | i, x :: xs => ⟨n + 1 + (if parensB 8 s x i = true then 1 else 0), oneOf v i, [x]⟩ :: operKids s n v (i + 1) xs
/-- what is in an expression that stands at a level -/
def inE (x : Ex) (n : Nat) : List (Shelf Ex) := match x with
 | .mk k _num name _m v kids => if k < 3 ∨ 9 < k then [] else if k = 8 then ⟨n + 1, .slice none 0 0, []⟩ :: operKids (strK 8 (bs name)) n v 0 kids else [⟨n + 1, v, kids⟩]

set_option maxHeartbeats 4000000 in
theorem inExpr_of (x : Ex) (n : Nat) (w : World) (hn : n ≤ 4194304) (hin : x.In w)
  (HO : x.kind = 8 → ∀ W, Below w.heap.size w W → Calls Tryz.prog 95 #[x.val, .int .i64 (n : Int)] W fun r w' => ∃ v, r = .returned v ∧ LiesN w' 2 v ((inE x n).map Shelf.cells) ∧ Below W.heap.size W w') :
  Calls Tryz.prog 67 #[x.val, .int .i64 (n : Int)] w fun r w' => ∃ v, r = .returned v ∧ LiesN w' 2 v ((inE x n).map Shelf.cells) ∧ Below w.heap.size w w' := by
 have hz := exSize x
 obtain ⟨k, num, l, m, v, kids⟩ := x
 rw [Ex.In] at hin
 obtain ⟨p, cap, rfl, _⟩ := hin.2.1
 clear hin
 generalize (List.map Ex.cells kids).length = L at *
 rw [Ex.val_mk] at *
 have B0 := hid (show Below w.heap.size w (w.alloc (.cells #[.int .i64 k, .int .i64 num, .string l, .bool m, .slice p L cap] 40 (0, 0))) from (Below.refl _ _).alloc (Nat.le_refl _) _)
 by_cases hk : k < 3 ∨ 9 < k
 ·rw [show inE (.mk k num l m (.slice p L cap) kids) n = [] from if_pos hk]
  have h3 : (k == 3) = false := by simp; omega
  have h4 : (k == 4) = false := by simp; omega
  have h5 : (k == 5) = false := by simp; omega
  have h6 : (k == 6) = false := by simp; omega
  have h7 : (k == 7) = false := by simp; omega
  have h8 : (k == 8) = false := by simp; omega
  have h9 : (k == 9) = false := by simp; omega
  clear hk HO hz
  go_enter Tryz.func67, Tryz.ntmps67
  go_wp2_with fail
  go_ret
  exact ⟨_, rfl, liesN_none, B0.out⟩
 ·by_cases h8 : k = 8
  ·subst h8
   have HC := hid (HO rfl _ B0.out)
   generalize inE _ n = q at *
   have X0 := hid (BoxAt.new w [.int .i64 8, .int .i64 num, .string l, .bool m, .slice p L cap] 40)
   have P1 : Hid (∀ (j : Nat) (u : Value), [.int .i64 8, .int .i64 num, .string l, .bool m, .slice p L cap][j]? = some u → (w.alloc (.cells #[.int .i64 8, .int .i64 num, .string l, .bool m, .slice p L cap] 40 (0, 0))).cell? ⟨w.heap.size, 0 + j, none⟩ = some u) := hid fun j u h => by rw [Nat.zero_add]; exact X0.out j u h
   have HZ := hid hz
   clear hk HO hz X0
   go_enter Tryz.func67, Tryz.ntmps67
   go_wp2_with fail
   with_reducible refine HC.out.mono ?_
   rintro e W2 ⟨v', rfl, hl', hb2⟩
   have HB := hid hb2
   have HL := hid hl'
   clear hb2 hl'
   go_wp2_with fail
   go_ret
   exact ⟨_, rfl, HL.out, B0.out.trans (HB.out.mono B0.out.size)⟩
  ·rw [show inE (.mk k num l m (.slice p L cap) kids) n = [⟨n + 1, .slice p L cap, kids⟩] from (if_neg hk).trans (if_neg h8)]
   clear HO hz
   rcases (show k = 3 ∨ k = 4 ∨ k = 5 ∨ k = 6 ∨ k = 7 ∨ k = 9 by omega) with rfl | rfl | rfl | rfl | rfl | rfl
   ·clear hk h8
    go_enter Tryz.func67, Tryz.ntmps67
    go_wp2_with fail
    go_ret
    have hB := BoxAt.new (w.alloc (.cells #[.int .i64 3, .int .i64 num, .string l, .bool m, .slice p L cap] 40 (0, 0))) [.int .i64 ((n : Int) + 1), .slice p L cap] 131
    rw [show (w.alloc (.cells #[.int .i64 3, .int .i64 num, .string l, .bool m, .slice p L cap] 40 (0, 0))).heap.size = w.heap.size + 1 from Array.size_push ..] at hB
    exact ⟨_, rfl, liesN_one hB, B0.out.alloc (by have := B0.out.size; omega) _⟩
   ·clear hk h8
    go_enter Tryz.func67, Tryz.ntmps67
    go_wp2_with fail
    go_ret
    have hB := BoxAt.new (w.alloc (.cells #[.int .i64 4, .int .i64 num, .string l, .bool m, .slice p L cap] 40 (0, 0))) [.int .i64 ((n : Int) + 1), .slice p L cap] 131
    rw [show (w.alloc (.cells #[.int .i64 4, .int .i64 num, .string l, .bool m, .slice p L cap] 40 (0, 0))).heap.size = w.heap.size + 1 from Array.size_push ..] at hB
    exact ⟨_, rfl, liesN_one hB, B0.out.alloc (by have := B0.out.size; omega) _⟩
   ·clear hk h8
    go_enter Tryz.func67, Tryz.ntmps67
    go_wp2_with fail
    go_ret
    have hB := BoxAt.new (w.alloc (.cells #[.int .i64 5, .int .i64 num, .string l, .bool m, .slice p L cap] 40 (0, 0))) [.int .i64 ((n : Int) + 1), .slice p L cap] 131
    rw [show (w.alloc (.cells #[.int .i64 5, .int .i64 num, .string l, .bool m, .slice p L cap] 40 (0, 0))).heap.size = w.heap.size + 1 from Array.size_push ..] at hB
    exact ⟨_, rfl, liesN_one hB, B0.out.alloc (by have := B0.out.size; omega) _⟩
   ·clear hk h8
    go_enter Tryz.func67, Tryz.ntmps67
    go_wp2_with fail
    go_ret
    have hB := BoxAt.new (w.alloc (.cells #[.int .i64 6, .int .i64 num, .string l, .bool m, .slice p L cap] 40 (0, 0))) [.int .i64 ((n : Int) + 1), .slice p L cap] 131
    rw [show (w.alloc (.cells #[.int .i64 6, .int .i64 num, .string l, .bool m, .slice p L cap] 40 (0, 0))).heap.size = w.heap.size + 1 from Array.size_push ..] at hB
    exact ⟨_, rfl, liesN_one hB, B0.out.alloc (by have := B0.out.size; omega) _⟩
   ·clear hk h8
    go_enter Tryz.func67, Tryz.ntmps67
    go_wp2_with fail
    go_ret
    have hB := BoxAt.new (w.alloc (.cells #[.int .i64 7, .int .i64 num, .string l, .bool m, .slice p L cap] 40 (0, 0))) [.int .i64 ((n : Int) + 1), .slice p L cap] 131
    rw [show (w.alloc (.cells #[.int .i64 7, .int .i64 num, .string l, .bool m, .slice p L cap] 40 (0, 0))).heap.size = w.heap.size + 1 from Array.size_push ..] at hB
    exact ⟨_, rfl, liesN_one hB, B0.out.alloc (by have := B0.out.size; omega) _⟩
   ·clear hk h8
    go_enter Tryz.func67, Tryz.ntmps67
    go_wp2_with fail
    go_ret
    have hB := BoxAt.new (w.alloc (.cells #[.int .i64 9, .int .i64 num, .string l, .bool m, .slice p L cap] 40 (0, 0))) [.int .i64 ((n : Int) + 1), .slice p L cap] 131
    rw [show (w.alloc (.cells #[.int .i64 9, .int .i64 num, .string l, .bool m, .slice p L cap] 40 (0, 0))).heap.size = w.heap.size + 1 from Array.size_push ..] at hB
    exact ⟨_, rfl, liesN_one hB, B0.out.alloc (by have := B0.out.size; omega) _⟩
/- How deep a list of shelves is, and its weight: what one round of tree.sound does to both. No program. -/

section
variable {α : Type} (dp wt : α → Nat)
/-- the deepest level of what stands in a list of things at a level -/
def deepAt (n : Nat) : List α → Nat
 | [] => n
 | x :: xs => max (n + dp x) (deepAt n xs)
def deepSh : List (Shelf α) → Nat
 | [] => 0
 | s :: ss => max (deepAt dp s.level s.list) (deepSh ss)
def wAll : List α → Nat
 | [] => 0
 | x :: xs => wt x + wAll xs
def wSh : List (Shelf α) → Nat
 | [] => 0
 | s :: ss => 1 + wAll wt s.list + wSh ss

theorem deepAt_le (n : Nat) : ∀ l : List α, n ≤ deepAt dp n l
 | [] => Nat.le_refl _
 | x :: xs => by rw [deepAt]; have := deepAt_le n xs; omega
theorem deepSh_app : ∀ l m : List (Shelf α), deepSh dp (l ++ m) = max (deepSh dp l) (deepSh dp m)
 | [], m => by simp [deepSh]
 | s :: ss, m => by rw [List.cons_append, deepSh, deepSh, deepSh_app ss m]; omega
theorem wSh_app : ∀ l m : List (Shelf α), wSh wt (l ++ m) = wSh wt l + wSh wt m
 | [], m => by simp [wSh]
 | s :: ss, m => by rw [List.cons_append, wSh, wSh, wSh_app ss m]; omega
theorem wSh_len : ∀ l : List (Shelf α), l.length ≤ wSh wt l
 | [] => Nat.le_refl _
 | s :: ss => by rw [wSh, List.length_cons]; have := wSh_len ss; omega
/-- what is in the things of a shelf, all in a row -/
def opened (inn : α → Nat → List (Shelf α)) (n : Nat) (l : List α) : List (Shelf α) := l.flatMap (fun x => inn x n)
end

/-! ### Types -/
theorem deepAt_ty (n : Nat) : ∀ l : List Ty, deepAt deepT n l = max n (n + deepTs l)
 | [] => by simp [deepAt, deepTs]
 | x :: xs => by rw [deepAt, deepTs, deepAt_ty n xs]; omega
theorem inT_law (t : Ty) (n : Nat) : max n (deepSh deepT (inT t n)) = n + deepT t := by
 obtain ⟨k, l, m, v, kids⟩ := t
 unfold inT
 rw [deepT]
 by_cases hk : k < 2 ∨ 4 < k
 ·simp only [if_pos hk, deepSh]; omega
 ·simp only [if_neg hk, deepSh, deepAt_ty]; omega
theorem wAll_ty : ∀ l : List Ty, wAll wT l = wTs l
 | [] => rfl
 | x :: xs => by rw [wAll, wTs, wAll_ty xs]
theorem inT_w (t : Ty) (n : Nat) : wSh wT (inT t n) ≤ wT t := by
 obtain ⟨k, l, m, v, kids⟩ := t
 unfold inT
 rw [wT]
 by_cases hk : k < 2 ∨ 4 < k
 ·simp only [if_pos hk, wSh]; omega
 ·simp only [if_neg hk, wSh, wAll_ty]; omega

/-! ### Expressions -/
mutual
def nE : Ex → Nat | .mk _ _ _ _ _ kids => 2 + nEs kids
def nEs : List Ex → Nat | [] => 0 | x :: xs => 1 + nE x + nEs xs
end
mutual
theorem nE_le : ∀ x : Ex, nE x + 1 ≤ wE x
 | .mk k num l m v kids => by have := nEs_le kids; rw [nE, wE]; omega
theorem nEs_le : ∀ l : List Ex, nEs l ≤ wEs l
 | [] => by rw [nEs, wEs]; exact Nat.le_refl _
 | x :: xs => by have h := nE_le x; have k := nEs_le xs; rw [nEs, wEs]; omega
end
theorem wAll_ex : ∀ l : List Ex, wAll nE l ≤ nEs l
 | [] => Nat.le_refl _
 | x :: xs => by have := wAll_ex xs; rw [wAll, nEs]; omega
theorem operKids_w (s n : Nat) (v : Value) : ∀ (l : List Ex) (i : Nat), wSh nE (operKids s n v i l) = nEs l
 | [], i => by rw [operKids, wSh, nEs]
 | x :: xs, i => by rw [operKids, wSh, nEs, operKids_w s n v xs (i + 1)]; simp only [wAll]; omega
theorem inE_w (x : Ex) (n : Nat) : wSh nE (inE x n) ≤ nE x := by
 obtain ⟨k, num, l, m, v, kids⟩ := x
 unfold inE
 rw [nE]
 by_cases hk : k < 3 ∨ 9 < k
 ·simp only [if_pos hk, wSh]; omega
 ·by_cases h8 : k = 8
  ·simp only [if_neg hk, if_pos h8, wSh, operKids_w, wAll]; omega
  ·have := wAll_ex kids
   simp only [if_neg hk, if_neg h8, wSh]; omega
theorem parens_if (s : Nat) (x : Ex) (i : Nat) : (if parensB 8 s x i = true then 1 else 0) = (if true = true ∧ i < 2 ∧ asideB s x.str i = true then 1 else 0) := by
 have h : parensB 8 s x i = operParens s x.str i := rfl
 rw [h]
 by_cases hi : i < 2
 ·rw [operParens_aside s x.str i hi]
  simp only [hi, true_and]
 ·have : operParens s x.str i = false := by unfold operParens; rw [if_pos (by omega)]
  rw [this]
  simp [hi]
theorem operKids_deep (s n : Nat) (v : Value) : ∀ (l : List Ex) (i : Nat), max (n + 1) (deepSh deepE (operKids s n v i l)) = n + 1 + deepEk true s i l
 | [], i => by rw [operKids, deepSh, deepEk]; omega
 | x :: xs, i => by
  have h := operKids_deep s n v xs (i + 1)
  rw [operKids, deepSh, deepEk, ← parens_if]
  simp only [deepAt]
  generalize (if parensB 8 s x i = true then 1 else 0) = q
  omega
theorem deepAt_ex (n s : Nat) : ∀ (l : List Ex) (i : Nat), deepAt deepE n l = max n (n + deepEk false s i l)
 | [], i => by simp [deepAt, deepEk]
 | x :: xs, i => by
  rw [deepAt, deepEk, deepAt_ex n s xs (i + 1), if_neg (by simp)]
  omega
theorem inE_law (x : Ex) (n : Nat) : max n (deepSh deepE (inE x n)) = n + deepE x := by
 obtain ⟨k, num, l, m, v, kids⟩ := x
 unfold inE
 rw [deepE]
 by_cases hk : k < 3 ∨ 9 < k
 ·simp only [if_pos hk, deepSh]; omega
 ·by_cases h8 : k = 8
  ·subst h8
   have h := operKids_deep (strK 8 (bs l)) n v kids 0
   simp only [if_neg hk, if_true, deepSh, deepAt, show ((8 : Int) == 8) = true from rfl]
   omega
  ·simp only [if_neg hk, if_neg h8, deepSh, show (k == 8) = false from by simpa using h8, deepAt_ex (n + 1) (strK k (bs l)) kids 0]
   omega

/-! ### The answer, when one stops beyond a limit -/
/-- the answer is the true depth, or both are beyond the limit -/
def Capped (limit r d : Nat) : Prop := r = d ∨ (limit < r ∧ limit < d)
theorem Capped.le {limit r d : Nat} (h : Capped limit r d) : (decide (r ≤ limit)) = decide (d ≤ limit) := by
 unfold Capped at h
 rw [Bool.eq_iff_iff]; simp; omega
theorem Capped.max {limit r d n : Nat} (h : Capped limit r d) : Capped limit (Nat.max r n) (Nat.max d n) := by
 unfold Capped at *
 have h1 : Nat.max r n = Max.max r n := rfl
 have h2 : Nat.max d n = Max.max d n := rfl
 omega
theorem Capped.trans {limit r d e : Nat} (h : Capped limit r d) (k : Capped limit d e) : Capped limit r e := by
 unfold Capped at *
 omega
/- Contracts of tree.inOper, tree.inExpr. -/

theorem sh_info : (Tryz.prog.info? 131).map (fun i => (i.zero, i.size, i.bytes)) = some (some (.agg #[.int .i64 0, .slice none 0 0]), 2, 32) := by kernel_rfl
def shRow {α : Type} (l : List (Shelf α)) : List Value := l.flatMap Shelf.cells
theorem shRow_snoc {α : Type} (l : List (Shelf α)) (t : Shelf α) : shRow (l ++ [t]) = shRow l ++ t.cells := by simp [shRow]
theorem shRow_len {α : Type} : ∀ l : List (Shelf α), (shRow l).length = l.length * 2
 | [] => rfl
 | s :: ss => by
  have := shRow_len ss
  unfold shRow at *
  rw [List.flatMap_cons, List.length_append, this, List.length_cons]
  unfold Shelf.cells
  simp only [List.length_cons, List.length_nil]; omega
theorem shRow_get {α : Type} : ∀ (l : List (Shelf α)) (i : Nat) (c : List Value), (l.map Shelf.cells)[i]? = some c → ∀ (j : Nat) (u : Value), c[j]? = some u → (shRow l)[i * 2 + j]? = some u
 | [], i, c, h, _, _, _ => by simp at h
 | s :: ss, 0, c, h, j, u, hj => by
  rw [List.map_cons, List.getElem?_cons_zero] at h
  cases h
  unfold shRow
  rw [List.flatMap_cons, Nat.zero_mul, Nat.zero_add, List.getElem?_append_left (List.getElem?_eq_some_iff.1 hj).1]
  exact hj
 | s :: ss, i + 1, c, h, j, u, hj => by
  have := shRow_get ss i c (by simpa using h) j u hj
  unfold shRow at *
  have hl : s.cells.length = 2 := rfl
  rw [List.flatMap_cons, List.getElem?_append_right (by rw [hl]; omega), hl, show (i + 1) * 2 + j - 2 = i * 2 + j by omega]
  exact this
theorem owns_cell {w : World} {base : Nat} {e : TypeId} {size : Nat} {g n cap : Nat} {xs : List Value} (h : w.ownsRow base e size (.slice (some ⟨g, 0, none⟩) n cap) n xs) {j : Nat} {u : Value} (hj : xs[j]? = some u) : w.cell? ⟨g, j, none⟩ = some u := by
 have h1 := (List.getElem?_eq_some_iff.1 hj).1
 rw [h.1] at h1
 exact (h.cellAt _ h1).trans hj
theorem owns_lies {α : Type} {w : World} {base : Nat} {e : TypeId} {v : Value} {l : List (Shelf α)} (h : w.ownsRow base e 2 v l.length (shRow l)) : Lies w 2 v (l.map Shelf.cells) := by
 obtain ⟨h1, ⟨rfl, h2⟩ | ⟨g, cap, cur, rfl, h3, h4, h5, h6, h7, h8⟩⟩ := id h
 ·cases l with
  | nil => exact lies_none
  | cons s ss => simp at h2
 ·refine ⟨some ⟨g, 0, none⟩, cap, by rw [List.length_map], by rw [List.length_map]; exact h5, fun _ => ⟨g, 0, rfl, fun i c hi j u hj => ?_⟩⟩
  rw [Nat.zero_add]
  exact owns_cell h (shRow_get l i c hi j u hj)
theorem owns_liesN {α : Type} {w : World} {base : Nat} {e : TypeId} {v : Value} {l : List (Shelf α)} (h : w.ownsRow base e 2 v l.length (shRow l)) : LiesN w 2 v (l.map Shelf.cells) := by
 refine ⟨owns_lies h, ?_⟩
 obtain ⟨_, ⟨rfl, _⟩ | ⟨g, cap, cur, rfl, _⟩⟩ := id h
 ·intro n c h; injection h with _ h1 h2; exact ⟨h1.symm, h2.symm⟩
 ·intro n c h; injection h with h0; cases h0
theorem operKids_snoc (s n : Nat) (v : Value) (t : Ex) : ∀ (l : List Ex) (i : Nat), operKids s n v i (l ++ [t]) = operKids s n v i l ++ [⟨n + 1 + (if parensB 8 s t (i + l.length) = true then 1 else 0), oneOf v (i + l.length), [t]⟩]
 | [], i => by simp [operKids]
 | x :: xs, i => by
  have h := operKids_snoc s n v t xs (i + 1)
  rw [List.cons_append, operKids, operKids, h, List.cons_append, List.length_cons, show i + 1 + xs.length = i + (xs.length + 1) by omega]

set_option maxHeartbeats 8000000 in
set_option maxRecDepth 100000 in
theorem inOper_any (x : Ex) (n : Nat) (w : World) (hn : n ≤ 4194304) (hin : x.In w) (hlen : x.kids.length ≤ 1048576) (h8 : x.kind = 8) :
  Calls Tryz.prog 95 #[x.val, .int .i64 (n : Int)] w fun r w' => ∃ v, r = .returned v ∧ LiesN w' 2 v ((inE x n).map Shelf.cells) ∧ Below w.heap.size w w' := by
 obtain ⟨i0, hinf, hi0⟩ := Option.map_eq_some_iff.1 sh_info
 have hz0 : i0.zero = some (.agg #[.int .i64 0, .slice none 0 0]) := by rw [Prod.mk.injEq] at hi0; exact hi0.1
 have hz1 : i0.size = 2 := by rw [Prod.mk.injEq, Prod.mk.injEq] at hi0; exact hi0.2.1
 have hz2 : i0.bytes = 32 := by rw [Prod.mk.injEq, Prod.mk.injEq] at hi0; exact hi0.2.2
 have hz := exSize x
 have cp : ∀ (i : Nat) (t : Ex) (W : World), x.kids[i]? = some t → Below w.heap.size w W → Calls Tryz.prog 117 #[.agg x.cells.toArray, .int .i64 (i : Int)] W fun r w' => r = .returned (.bool (parensB 8 x.str t i)) ∧ Below W.heap.size W w' := fun i t W ht hb => by
  have := inParens_any x t i W (Ex.In.keep (Keeps.of_below hb) x hin) ht hlen
  rw [h8] at this
  exact this
 obtain ⟨k, num, l, m, v, kids⟩ := x
 have h8' : k = 8 := h8
 subst h8'
 rw [Ex.In] at hin
 obtain ⟨p, cap, rfl, hcap, hp⟩ := hin.2.1
 clear hin h8
 have he : inE (.mk 8 num l m (.slice p (List.map Ex.cells kids).length cap) kids) n = ⟨n + 1, .slice none 0 0, []⟩ :: operKids (strK 8 (bs l)) n (.slice p (List.map Ex.cells kids).length cap) 0 kids :=
  by
   simp only [inE]
   rw [if_neg (by omega)]
   first | done | rw [if_pos rfl] | simp only [if_true]
 rw [he]
 rw [show Ex.str (.mk 8 num l m (.slice p (List.map Ex.cells kids).length cap) kids) = strK 8 (bs l) from rfl] at cp
 rw [show Ex.kids (.mk 8 num l m (.slice p (List.map Ex.cells kids).length cap) kids) = kids from rfl] at *
 have y4 : (Ex.mk 8 num l m (.slice p (List.map Ex.cells kids).length cap) kids).cells[4]? = some (.slice p (List.map Ex.cells kids).length cap) := rfl
 unfold Ex.val
 generalize strK 8 (bs l) = s at *
 have hpb : kids ≠ [] → ∃ b off, p = some ⟨b, off, none⟩ := fun hne => by
  obtain ⟨b, off, e, _⟩ := hp (by simpa using hne)
  exact ⟨b, off, e⟩
 rw [List.length_map] at *
 generalize (Ex.mk 8 num l m (.slice p kids.length cap) kids).cells = cs at *
 generalize hL : kids.length = L at *
 have HC := hid cp
 have HL := hid hL
 have HP := hid hpb
 have HZ := hid hz
 have HY := hid y4
 clear he cp hp hpb hz y4 hL
 have B0 := hid (show Below w.heap.size w (w.alloc (.cells cs.toArray 40 (0, 0))) from (Below.refl _ _).alloc (Nat.le_refl _) _)
 have X0 := hid (BoxAt.new w cs 40)
 have hb1 : Below w.heap.size w ((w.alloc (.cells cs.toArray 40 (0, 0))).alloc (.cells #[.int .i64 ((n : Int) + 1), .slice none 0 0] 131 (0, 0))) := B0.out.alloc (by have := B0.out.size; omega) _
 have X1 := hid (X0.out.later ((Below.refl _ _).alloc (Nat.le_refl _) (.cells #[.int .i64 ((n : Int) + 1), .slice none 0 0] 131 (0, 0))))
 have d4 := box_get X1.out HY.out
 have HO : Hid (((w.alloc (.cells cs.toArray 40 (0, 0))).alloc (.cells #[.int .i64 ((n : Int) + 1), .slice none 0 0] 131 (0, 0))).ownsRow (w.heap.size + 1) 131 2 (.slice (some ⟨w.heap.size + 1, 0, none⟩) 1 1) 1 (shRow [(⟨n + 1, .slice none 0 0, []⟩ : Shelf Ex)])) := hid
  ⟨rfl, .inr ⟨w.heap.size + 1, 1, _, rfl, Nat.le_refl _, by
   have := heap_alloc_new (w.alloc (.cells cs.toArray 40 (0, 0))) (.cells #[.int .i64 ((n : Int) + 1), .slice none 0 0] 131 (0, 0))
   rw [show (w.alloc (.cells cs.toArray 40 (0, 0))).heap.size = w.heap.size + 1 from Array.size_push ..] at this
   exact this, Nat.le_refl _, by unfold maxLen; omega, rfl, rfl⟩⟩
 have HB := hid hb1
 clear hb1 B0 X0
 go_enter Tryz.func95, Tryz.ntmps95
 go_wp2_with fail
 generalize (World.alloc (World.alloc w _) _) = W1 at *
 go_loopg [5, 15] L (fun gf u v wx => ∃ i : Nat, v = .int .i64 (i : Int) ∧ i ≤ L ∧ L ≤ i + gf ∧ Hid (wx.ownsRow (w.heap.size + 1) 131 2 u (i + 1) (shRow (⟨n + 1, .slice none 0 0, []⟩ :: operKids s n (.slice p L cap) 0 (kids.take i)))) ∧ Hid (BoxAt wx w.heap.size cs) ∧ Hid (Below w.heap.size w wx))
 case atStart => exact ⟨0, rfl, by omega, by omega, HO, X1, HB⟩
 case round =>
  obtain ⟨i, rfl, hi, hg, HOi, Xi, HBi⟩ := hrel
  by_cases hlt : i < L
  ·obtain ⟨t, ht⟩ : ∃ t, kids[i]? = some t := ⟨kids[i]'(by rw [HL.out]; exact hlt), List.getElem?_eq_getElem _⟩
   obtain ⟨b, off, rfl⟩ := HP.out (fun e => by rw [e] at ht; simp at ht)
   have CP := hid fun W hb => HC.out i t W ht hb
   have hop : operKids s n (.slice (some ⟨b, off, none⟩) L cap) 0 (kids.take (i + 1)) = operKids s n (.slice (some ⟨b, off, none⟩) L cap) 0 (kids.take i) ++ [⟨n + 1 + (if parensB 8 s t i = true then 1 else 0), .slice (some ⟨b, off + i * 5, none⟩) 1 (cap - i), [t]⟩] := by
    rw [show kids.take (i + 1) = kids.take i ++ [t] by rw [List.take_add_one, ht]; rfl, operKids_snoc, Nat.zero_add, List.length_take, Nat.min_eq_left (by rw [HL.out]; omega)]
    rfl
   generalize operKids s n (.slice (some ⟨b, off, none⟩) L cap) 0 (kids.take i) = OLD at *
   generalize parensB 8 s t i = par at *
   have HN := hid hop
   clear hop HC HO HB HP X1 d4
   have d4 := box_get Xi.out HY.out
   have ZA : Hid ((Tryz.prog.info? 131).map (·.size) = some [Value.int .i64 ((n : Int) + 1), .slice (some ⟨b, off + i * 5, none⟩) 1 (cap - i)].toArray.size) := hid (show (Tryz.prog.info? 131).map (·.size) = some 2 by kernel_rfl)
   have ZO : Hid ((#[.int .i64 0, .slice none 0 0] : Array Value).size = [Value.int .i64 ((n : Int) + 1), .slice (some ⟨b, off + i * 5, none⟩) 1 (cap - i)].toArray.size) := hid rfl
   have ZN : Hid ([Value.int .i64 ((n : Int) + 1), .slice (some ⟨b, off + i * 5, none⟩) 1 (cap - i)].toArray.all (·.oneCell') = true) := hid (by simp [Value.oneCell'])
   have hb2 : Below wr.heap.size wr ((wr.alloc (.cells #[.int .i64 0, .slice none 0 0] 131 (0, 0))).setRow wr.heap.size [Value.int .i64 ((n : Int) + 1), .slice (some ⟨b, off + i * 5, none⟩) 1 (cap - i)].toArray) := rowed_below' _ _ _
   have hX2 : BoxAt ((wr.alloc (.cells #[.int .i64 0, .slice none 0 0] 131 (0, 0))).setRow wr.heap.size [Value.int .i64 ((n : Int) + 1), .slice (some ⟨b, off + i * 5, none⟩) 1 (cap - i)].toArray) wr.heap.size [Value.int .i64 ((n : Int) + 1), .slice (some ⟨b, off + i * 5, none⟩) 1 (cap - i)] := rowed_box' _ _ _ _
   have XC := hid (Xi.out.later hb2)
   have P1 : Hid (∀ (j : Nat) (u : Value), cs[j]? = some u → ((wr.alloc (.cells #[.int .i64 0, .slice none 0 0] 131 (0, 0))).setRow wr.heap.size [Value.int .i64 ((n : Int) + 1), .slice (some ⟨b, off + i * 5, none⟩) 1 (cap - i)].toArray).cell? ⟨w.heap.size, 0 + j, none⟩ = some u) := hid fun j u h => by rw [Nat.zero_add]; exact XC.out j u h
   have XS := hid hX2
   have FZ : Hid (((wr.alloc (.cells #[.int .i64 0, .slice none 0 0] 131 (0, 0))).setRow wr.heap.size [Value.int .i64 ((n : Int) + 1), .slice (some ⟨b, off + i * 5, none⟩) 1 (cap - i)].toArray).frozen? ⟨wr.heap.size, 0, none⟩ = false) := hid (by
    have h := setRow_heap _ wr.heap.size _ [Value.int .i64 ((n : Int) + 1), .slice (some ⟨b, off + i * 5, none⟩) 1 (cap - i)].toArray _ _ (heap_alloc_new wr (.cells #[.int .i64 0, .slice none 0 0] 131 (0, 0)))
    unfold World.frozen?
    first | (rw [h]; rfl) | (dsimp only; rw [h]; rfl) | (simp only [h]; rfl) | (simp only [h]; simp))
   have BB := hid hb2
   have BW := hid (HBi.out.trans (hb2.mono HBi.out.size))
   clear hb2 hX2
   go_wp2_with (first | (with_reducible refine wpList_store_row (o := ⟨none, _, _, _, _, _⟩) rfl _ _ _ rfl wr.heap.size [Value.int .i64 ((n : Int) + 1), .slice (some ⟨b, off + i * 5, none⟩) 1 (cap - i)].toArray rfl rfl _ _ (heap_alloc_new _ _) ZA.out ZO.out ZN.out ?_) | (with_reducible refine wpList_load_at (o := ⟨some 27, _, _, _, _, _⟩) rfl _ _ rfl w.heap.size 0 rfl cs _ P1.out Tryz.underlying40 rfl HZ.out ?_))
   with_reducible refine (CP.out _ BW.out).mono ?_
   rintro e W3 ⟨rfl, hb3⟩
   have f0 : W3.frozen? ⟨wr.heap.size, 0, none⟩ = false := ((bcell hb3).2 _ _ (World.block_lt_of_cell? _ _ (box_get XS.out (j := 0) rfl))).trans FZ.out
   have XS3 := hid (XS.out.later hb3)
   have B3 := hid (BW.out.trans (hb3.mono BW.out.size))
   have XB3 := hid (XC.out.later hb3)
   have BR := hid (BB.out.trans (hb3.mono BB.out.size))
   have HO3 := hid (owns_below HOi.out BR.out)
   have e0 := box_get XS3.out (j := 0) rfl
   have e1 := box_get XS3.out (j := 1) rfl
   have hltr : w.heap.size < wr.heap.size := World.block_lt_of_cell? _ _ (box_get Xi.out HY.out)
   clear hb3 d4 CP P1 XC XS BB BW ZA ZO ZN FZ
   have hlt3 : w.heap.size < W3.heap.size := World.block_lt_of_cell? _ _ (box_get XB3.out HY.out)
   cases par
   ·go_wp2_with (at_builtin; refine wpList_append_own _ rfl _ _ 160 rfl (w.heap.size + 1) 131 i0 _ 2 32 Tryz.underlying160 hinf hz0 hz1 hz2 rfl (by decide) _ _ _ rfl (HO3.out.alloc _) ⟨W3.heap.size, 0, none⟩ 1 1 [.int .i64 ((n : Int) + 1), .slice (some ⟨b, off + i * 5, none⟩) 1 (cap - i)] rfl rfl ?c1 ?c2 ?c3 ?c4 ?c5 ?_)
    case c1 =>
     intro j u hj
     match j, hj with
     | 0, hj => simp at hj; subst hj; simp [Addr.add]
     | 1, hj => simp at hj; subst hj; simp [Addr.add]
    case c2 => intro u hu; simp at hu; rcases hu with rfl | rfl <;> rfl
    case c3 => unfold maxLen; omega
    case c4 => omega
    case c5 => rw [show (W3.alloc _).heap.size = W3.heap.size + 1 from Array.size_push ..]; omega
    intro v' w2 hown' hgrow _
    have hs2 : w.heap.size + 1 ≤ (W3.alloc (.cells #[.int .i64 ((n : Int) + 1), .slice (some ⟨b, off + i * 5, none⟩) 1 (cap - i)] 131 (0, 0))).heap.size := by rw [show (W3.alloc _).heap.size = W3.heap.size + 1 from Array.size_push ..]; omega
    have g1 : Below (w.heap.size + 1) W3 w2 := ((Below.refl _ _).alloc (by omega) _).grown hgrow hs2 (fun k hk => (HO3.out.lt k hk).1)
    have g2 : Below w.heap.size w w2 := B3.out.trans (g1.mono (Nat.le_succ _))
    have g3 : BoxAt w2 w.heap.size cs := fun j u hj => (g1.cell (p := ⟨w.heap.size, j, none⟩) (Nat.lt_succ_self _)).trans (XB3.out j u hj)
    have G1 := hid g2
    have G2 := hid g3
    have K : Hid (w2.ownsRow (w.heap.size + 1) 131 2 v' (i + 1 + 1) (shRow (⟨n + 1, .slice none 0 0, []⟩ :: operKids s n (.slice (some ⟨b, off, none⟩) L cap) 0 (kids.take (i + 1))))) := hid (by rw [HN.out, ← List.cons_append, shRow_snoc]; exact hown')
    clear hown' hgrow hs2 g1 g2 g3
    go_wp2_with fail
    go_roundg (gk - 1)
    case measure => omega
    case rel => exact ⟨i + 1, by go_num, by omega, by omega, K, G2, G1⟩
   ·have hws : (W3.setCell ⟨wr.heap.size, 0, none⟩ (.int .i64 ((n : Int) + 1 + 1))).heap.size = W3.heap.size := by simp [World.setCell]
    have hbs : Below wr.heap.size wr (W3.setCell ⟨wr.heap.size, 0, none⟩ (.int .i64 ((n : Int) + 1 + 1))) := BR.out.setCell (Nat.le_refl _) _
    have HO4 := hid (owns_below HOi.out hbs)
    have B4 := hid (HBi.out.trans (hbs.mono HBi.out.size))
    have XB4 := hid (Xi.out.later hbs)
    have e1' : (W3.setCell ⟨wr.heap.size, 0, none⟩ (.int .i64 ((n : Int) + 1 + 1))).cell? ⟨wr.heap.size, 1, none⟩ = some (.slice (some ⟨b, off + i * 5, none⟩) 1 (cap - i)) := (World.cell?_setCell_other _ _ _ _ (by simp)).trans e1
    have e0' : (W3.setCell ⟨wr.heap.size, 0, none⟩ (.int .i64 ((n : Int) + 1 + 1))).cell? ⟨wr.heap.size, 0, none⟩ = some (.int .i64 ((n : Int) + 1 + 1)) := World.cell?_setCell_same' _ _ _ (by rw [e0]; rfl)
    clear hbs e1
    go_wp2_with (at_builtin; refine wpList_append_own _ rfl _ _ 160 rfl (w.heap.size + 1) 131 i0 _ 2 32 Tryz.underlying160 hinf hz0 hz1 hz2 rfl (by decide) _ _ _ rfl (HO4.out.alloc _) ⟨W3.heap.size, 0, none⟩ 1 1 [.int .i64 ((n : Int) + 1 + 1), .slice (some ⟨b, off + i * 5, none⟩) 1 (cap - i)] rfl rfl ?c1 ?c2 ?c3 ?c4 ?c5 ?_)
    case c1 =>
     intro j u hj
     have h := BoxAt.new (W3.setCell ⟨wr.heap.size, 0, none⟩ (.int .i64 ((n : Int) + 1 + 1))) [.int .i64 ((n : Int) + 1 + 1), .slice (some ⟨b, off + i * 5, none⟩) 1 (cap - i)] 131 j u hj
     rw [hws] at h
     rw [show (⟨W3.heap.size, 0, none⟩ : Addr).add j = ⟨W3.heap.size, j, none⟩ by simp [Addr.add]; exact fun h => h.symm]
     exact h
    case c2 => intro u hu; simp at hu; rcases hu with rfl | rfl <;> rfl
    case c3 => unfold maxLen; omega
    case c4 => omega
    case c5 => rw [show ((W3.setCell ⟨wr.heap.size, 0, none⟩ (.int .i64 ((n : Int) + 1 + 1))).alloc _).heap.size = (W3.setCell ⟨wr.heap.size, 0, none⟩ (.int .i64 ((n : Int) + 1 + 1))).heap.size + 1 from Array.size_push ..]; omega
    intro v' w2 hown' hgrow _
    have hs2 : w.heap.size + 1 ≤ ((W3.setCell ⟨wr.heap.size, 0, none⟩ (.int .i64 ((n : Int) + 1 + 1))).alloc (.cells #[.int .i64 ((n : Int) + 1 + 1), .slice (some ⟨b, off + i * 5, none⟩) 1 (cap - i)] 131 (0, 0))).heap.size := by rw [show ((W3.setCell ⟨wr.heap.size, 0, none⟩ (.int .i64 ((n : Int) + 1 + 1))).alloc _).heap.size = (W3.setCell ⟨wr.heap.size, 0, none⟩ (.int .i64 ((n : Int) + 1 + 1))).heap.size + 1 from Array.size_push ..]; omega
    have g1 : Below (w.heap.size + 1) (W3.setCell ⟨wr.heap.size, 0, none⟩ (.int .i64 ((n : Int) + 1 + 1))) w2 := ((Below.refl _ _).alloc (by omega) _).grown hgrow hs2 (fun k hk => (HO4.out.lt k hk).1)
    have g2 : Below w.heap.size w w2 := B4.out.trans (g1.mono (Nat.le_succ _))
    have g3 : BoxAt w2 w.heap.size cs := fun j u hj => (g1.cell (p := ⟨w.heap.size, j, none⟩) (Nat.lt_succ_self _)).trans (XB4.out j u hj)
    have G1 := hid g2
    have G2 := hid g3
    have K : Hid (w2.ownsRow (w.heap.size + 1) 131 2 v' (i + 1 + 1) (shRow (⟨n + 1, .slice none 0 0, []⟩ :: operKids s n (.slice (some ⟨b, off, none⟩) L cap) 0 (kids.take (i + 1))))) := hid (by rw [HN.out, ← List.cons_append, shRow_snoc]; exact hown')
    clear hown' hgrow hs2 g1 g2 g3
    go_wp2_with fail
    go_roundg (gk - 1)
    case measure => omega
    case rel => exact ⟨i + 1, by go_num, by omega, by omega, K, G2, G1⟩
  ·obtain rfl : i = L := by omega
   have K := HOi.out
   rw [show kids.take i = kids by rw [← HL.out, List.take_length]] at K
   have hk : ∀ (l : List Ex) (j : Nat), (operKids s n (.slice p i cap) j l).length = l.length := by
    intro l
    induction l with
    | nil => intro j; rfl
    | cons x xs ih => intro j; rw [operKids, List.length_cons, List.length_cons, ih]
   have KL := hid (owns_liesN (l := ⟨n + 1, .slice none 0 0, []⟩ :: operKids s n (.slice p i cap) 0 kids) (by rw [List.length_cons, hk, HL.out]; exact K))
   clear K hk
   go_wp2_with fail
   go_ret
   exact ⟨_, rfl, KL.out, HBi.out⟩

theorem inExpr_any (x : Ex) (n : Nat) (w : World) (hn : n ≤ 4194304) (hin : x.In w) (hlen : x.kids.length ≤ 1048576) :
  Calls Tryz.prog 67 #[x.val, .int .i64 (n : Int)] w fun r w' => ∃ v, r = .returned v ∧ LiesN w' 2 v ((inE x n).map Shelf.cells) ∧ Below w.heap.size w w' :=
 inExpr_of x n w hn hin fun h8 W hb => inOper_any x n W hn (Ex.In.keep (Keeps.of_below hb) x hin) hlen h8
end Go.Proofs.YtemflcojebanlaaGreatDoor.TreeC
