/- Texts joined: TreeTH, TreeTI, NmE, NmK. -/
import Derived.Test.YtemflcojebanlaaGreatDoorJ06
import Derived.Test.YtemflcojebanlaaGreatDoorJ04
import Derived.Deep.AppendLies
import Derived.Deep.RegionLaw
import Derived.Maps.OwnSet
import Derived.Maps.OwnOps
import Derived.Maps.RangeWalk
import Derived.Maps.Ext
/- Contracts of tree.noExpr, and of tree.rightStmt out of contracts of what the kind asks. -/
namespace Go.Proofs.YtemflcojebanlaaGreatDoor.TreeC
open Go Go.RowKit Go.Lib Go.Sort LexP TreeP LexC

set_option maxHeartbeats 4000000 in
theorem noExpr_of (k num : Int) (name : ByteArray) (mt : Bool) (p : Option Addr) (L cap : Nat) (w : World) (_hn : L ≤ 1048576) :
  Calls Tryz.prog 143 #[.agg #[.int .i64 k, .int .i64 num, .string name, .bool mt, .slice p L cap]] w fun r w' => r = .returned (.bool (k == 0 && num == 0 && (bs name).isEmpty && !mt && L == 0)) ∧ Below w.heap.size w w' := by
 obtain ⟨R, hR⟩ : ∃ R, (k == 0 && num == 0 && (bs name).isEmpty && !mt && L == 0) = R := ⟨_, rfl⟩
 rw [hR]
 have HS := hid hR
 clear hR
 have B0 : Hid (Below w.heap.size w (w.alloc (.cells #[.int .i64 k, .int .i64 num, .string name, .bool mt, .slice p L cap] 40 (0, 0)))) := hid ((Below.refl _ _).alloc (Nat.le_refl _) _)
 have X0 := hid (BoxAt.new w [.int .i64 k, .int .i64 num, .string name, .bool mt, .slice p L cap] 40)
 go_enter Tryz.func143, Tryz.ntmps143
 go_wp2_with fail
 refine (noneN_any _ _).mono ?_
 rintro e W1 ⟨rfl, rfl⟩
 generalize hq0 : (k == 0) = q0
 generalize hW0 : w.alloc _ = W0 at *
 have d0 := box_get X0.out (j := 0) rfl
 have d1 := box_get X0.out (j := 1) rfl
 have d2 := box_get X0.out (j := 2) rfl
 have d3 := box_get X0.out (j := 3) rfl
 have d4 := box_get X0.out (j := 4) rfl
 cases q0
 ·go_wp2_with fail
  go_ret
  exact ⟨ret_bool (by rw [← HS.out, hq0]; simp), B0.out⟩
 go_wp2_with fail
 refine (noneI_any _ _).mono ?_
 rintro e W1 ⟨rfl, rfl⟩
 generalize hq1 : (num == 0) = q1
 cases q1
 ·go_wp2_with fail
  go_ret
  exact ⟨ret_bool (by rw [← HS.out, hq1]; simp), B0.out⟩
 go_wp2_with fail
 refine (noneS_any _ _).mono ?_
 rintro e W1 ⟨rfl, rfl⟩
 generalize hq2 : (bs name).isEmpty = q2
 cases q2
 ·go_wp2_with fail
  go_ret
  exact ⟨ret_bool (by rw [← HS.out, hq2]; simp), B0.out⟩
 go_wp2_with fail
 refine (noneB_any _ _).mono ?_
 rintro e W1 ⟨rfl, rfl⟩
 cases mt
 ·go_wp2_with fail
  go_ret
  exact ⟨ret_bool (by rw [← HS.out, hq0, hq1, hq2]; first | rfl | (rw [Bool.eq_iff_iff]; simp; done) | (rw [Bool.eq_iff_iff]; simp; omega)), B0.out⟩
 ·go_wp2_with fail
  go_ret
  exact ⟨ret_bool (by rw [← HS.out]; simp), B0.out⟩
theorem noExpr_any (e : Ex) (w : World) (h : e.In w) (hw : wE e ≤ 1048576) : Calls Tryz.prog 143 #[e.val] w fun r w' => r = .returned (.bool e.none) ∧ Below w.heap.size w w' := by
 obtain ⟨k, num, name, mt, v, kids⟩ := e
 rw [Ex.In] at h
 rw [wE] at hw
 have hlen := wEs_len kids
 obtain ⟨p, cap, rfl, _⟩ := h.2.1
 rw [List.length_map]
 exact noExpr_of k num name mt p kids.length cap w (by omega)

set_option maxHeartbeats 8000000 in
set_option maxRecDepth 100000 in
theorem rightS_gen (w : World) (k : Nat) (cs pc ec : List Value) (name : ByteArray) (tp ep : Option Addr) (tl tc el ec' g0 g1 g2 g3 : Nat) (b0 b1 bE b2 b3 : Bool) (hk1 : 1 ≤ k) (hk2 : k < 5) (_htl : tl ≤ 1048576) (_hel : el ≤ 1048576)
  (hy : cs[0]? = some (.int .i64 (k : Int)) ∧ cs[1]? = some (.string name) ∧ cs[12]? = some (.slice tp tl tc) ∧ cs[13]? = some (.slice ep el ec') ∧ (∀ j u, pc[j]? = some u → cs[2 + j]? = some u) ∧ (∀ j u, ec[j]? = some u → cs[7 + j]? = some u))
  (hpl : pc.length = 5) (hcl : ec.length = 5)
  (hent : entS k = [fnV g0, fnV g1, fnV g2, fnV g3]) (en0 : Enters g0) (en1 : Enters g1) (en2 : Enters g2) (en3 : Enters g3)
  (C0 : Answers w g0 #[.string name] b0) (C1 : Answers w g1 #[.agg pc.toArray] b1) (CE : Answers w 75 #[.agg ec.toArray] bE)
  (C2 : Answers w g2 #[.slice tp tl tc] b2) (C3 : Answers w g3 #[.slice ep el ec'] b3) :
  Calls Tryz.prog 102 #[.agg cs.toArray] w fun r w' => r = .returned (.bool (b0 && b1 && bE && b2 && b3)) ∧ Below w.heap.size w w' := by
 unfold Answers at C0 C1 CE C2 C3
 unfold Enters at en0 en1 en2 en3
 obtain ⟨R, hR⟩ : ∃ R, (b0 && b1 && bE && b2 && b3) = R := ⟨_, rfl⟩
 rw [hR]
 have HS := hid hR
 have H0 := hid C0
 have H1 := hid C1
 have H2 := hid C2
 have H3 := hid C3
 have HE := hid CE
 have HEnt := hid hent
 have HY := hid hy
 have HSp : Hid ((Tryz.prog.info? 40).map (·.size) = some pc.length) := hid (by rw [hpl]; exact (show (Tryz.prog.info? 40).map (·.size) = some 5 by kernel_rfl))
 have HSe : Hid ((Tryz.prog.info? 40).map (·.size) = some ec.length) := hid (by rw [hcl]; exact (show (Tryz.prog.info? 40).map (·.size) = some 5 by kernel_rfl))
 clear hR C0 C1 C2 C3 CE hent hy hpl hcl
 have X0 := hid (BoxAt.new w cs 68)
 have B0 : Hid (Below w.heap.size w (w.alloc (.cells cs.toArray 68 (0, 0)))) := hid ((Below.refl _ _).alloc (Nat.le_refl _) _)
 have hz : Hid ((Tryz.prog.info? 191).map (·.size) = some tabS.toArray.size) := hid (show (Tryz.prog.info? 191).map (·.size) = some 20 by kernel_rfl)
 have ho : Hid (tabS.toArray.all (·.oneCell') = true) := hid (by kernel_rfl)
 go_enter Tryz.func102, Tryz.ntmps102
 go_wp2_with fail
 refine (stmtKinds_any _).mono ?_
 rintro e W1 ⟨rfl, hb1⟩
 generalize w.alloc _ = W0 at *
 have X1 := hid (X0.out.later hb1)
 have B1 := hid (B0.out.trans (hb1.mono B0.out.size))
 clear hb1
 go_wp2_with (with_reducible refine wpList_store_row (o := ⟨none, _, _, _, _, _⟩) rfl _ _ _ rfl W1.heap.size tabS.toArray rfl ?r1 _ _ (heap_alloc_new _ _) hz.out ?r2 ho.out ?_)
 case r1 => rfl
 case r2 => rfl
 generalize hW2 : (World.alloc W1 _).setRow _ _ = W2
 have hb2 : Below W1.heap.size W1 W2 := by rw [← hW2]; exact rowed_below' _ _ _
 have hX2 : BoxAt W2 W1.heap.size tabS := by rw [← hW2]; exact rowed_box' _ _ _ _
 have X2 := hid (X1.out.later hb2)
 have B2 := hid (B1.out.trans (hb2.mono B1.out.size))
 have XT := hid hX2
 clear hW2 hb2 hX2
 have d0 := box_get X2.out HY.out.1
 have hlt0 : w.heap.size < W2.heap.size := World.block_lt_of_cell? _ _ d0
 have hlt1 : w.heap.size ≠ W2.heap.size := by omega
 simp only [Act.put]
 have CA : Hid (∀ W, Below W2.heap.size W2 W → Calls Tryz.prog 124 #[.slice (some ⟨W1.heap.size, 0, none⟩) 5 5, .int .i64 (k : Int)] W fun r w' => r = .returned (.tuple #[.agg #[fnV g0, fnV g1, fnV g2, fnV g3], .bool true]) ∧ Below W.heap.size W w') :=
  hid fun W hb => by have := atS_yes W W1.heap.size k (XT.out.later hb) hk1 hk2; rw [HEnt.out] at this; exact this
 go_cut [4, 5] (fun u v wx => ∃ m : Nat, u = .pointer (some ⟨m, 0, none⟩) ∧ v = .bool true ∧ Hid (BoxAt wx m [fnV g0, fnV g1, fnV g2, fnV g3] ∧ Below W2.heap.size W2 wx))
 case first =>
  clear H0 H1 H2 H3 HE en0 en1 en2 en3 XT
  go_region_with (go_at_call 124; refine (CA.out _ ?_).mono ?_; rotate_left; rintro e W3 ⟨rfl, hb3⟩; obtain ⟨hc3, hf3⟩ := bcell hb3; rotate_left; (first | exact (Below.refl _ _).drew | exact ((Below.refl _ _).drew).alloc (Nat.le_refl _) _ | exact ((Below.refl _ _).alloc (Nat.le_refl _) _).drew))
  all_goals go_wp2_with fail
  all_goals simp only [Act.put, List.getElem_toArray, List.getElem_cons_succ, List.getElem_cons_zero, List.setIfInBounds_toArray, List.set_cons_zero, List.set_cons_succ]
  all_goals go_meet
  ·have e := laid_behind (W2 := W2) [fnV g0, fnV g1, fnV g2, fnV g3] 190 ⟨hb3.os, hb3.tape, hb3.output, hb3.size, hb3.block⟩
   exact ⟨_, rfl, rfl, hid e⟩
  ·have e := laid_ahead (W2 := W2) (entS 0) [fnV g0, fnV g1, fnV g2, fnV g3] 190 rfl ⟨hb3.os, hb3.tape, hb3.output, hb3.size, hb3.block⟩
   exact ⟨_, rfl, rfl, hid e⟩
  ·have e := laid_ahead (W2 := W2) (entS 0) [fnV g0, fnV g1, fnV g2, fnV g3] 190 rfl ⟨hb3.os, hb3.tape, hb3.output, hb3.size, hb3.block⟩
   exact ⟨_, rfl, rfl, hid e⟩
 case rest =>
  obtain ⟨m, rfl, rfl, hB⟩ := hcut
  have XE3 := hid hB.out.1
  have B3 := hid (B2.out.trans (hB.out.2.mono B2.out.size))
  have X3 := hid (X2.out.later hB.out.2)
  clear hB d0 hlt0 hlt1 CA XT
  have d1 := box_get X3.out HY.out.2.1
  have a0 := box_get XE3.out (j := 0) rfl
  go_wp2_with fail
  with_reducible refine (H0.out _ B3.out).mono ?_
  rintro e W4 ⟨rfl, hb4⟩
  have B4 := hid (B3.out.trans (hb4.mono B3.out.size))
  have X4 := hid (X3.out.later hb4)
  have XE4 := hid (XE3.out.later hb4)
  clear d1 a0 hb4
  cases b0
  ·go_wp2_with fail
   go_ret
   exact ⟨ret_bool (by rw [← HS.out]; simp), B4.out⟩
  have d1 := trivial
  have a0 := box_get XE4.out (j := 1) rfl
  go_wp2_with (with_reducible refine wpList_load_at (o := ⟨some 26, _, _, _, _, _⟩) rfl _ _ rfl w.heap.size 2 rfl pc _ (fun j u h => box_get X4.out (HY.out.2.2.2.2.1 j u h)) Tryz.underlying40 rfl HSp.out ?_)
  with_reducible refine (H1.out _ B4.out).mono ?_
  rintro e W5 ⟨rfl, hb5⟩
  have B5 := hid (B4.out.trans (hb5.mono B4.out.size))
  have X5 := hid (X4.out.later hb5)
  have XE5 := hid (XE4.out.later hb5)
  clear d1 a0 hb5
  cases b1
  ·go_wp2_with fail
   go_ret
   exact ⟨ret_bool (by rw [← HS.out]; simp), B5.out⟩
  have d1 := trivial
  have a0 := trivial
  go_wp2_with (with_reducible refine wpList_load_at (o := ⟨some 31, _, _, _, _, _⟩) rfl _ _ rfl w.heap.size 7 rfl ec _ (fun j u h => box_get X5.out (HY.out.2.2.2.2.2 j u h)) Tryz.underlying40 rfl HSe.out ?_)
  with_reducible refine (HE.out _ B5.out).mono ?_
  rintro e W6 ⟨rfl, hb6⟩
  have B6 := hid (B5.out.trans (hb6.mono B5.out.size))
  have X6 := hid (X5.out.later hb6)
  have XE6 := hid (XE5.out.later hb6)
  clear d1 a0 hb6
  cases bE
  ·go_wp2_with fail
   go_ret
   exact ⟨ret_bool (by rw [← HS.out]; simp), B6.out⟩
  have d1 := box_get X6.out HY.out.2.2.1
  have a0 := box_get XE6.out (j := 2) rfl
  go_wp2_with fail
  with_reducible refine (H2.out _ B6.out).mono ?_
  rintro e W7 ⟨rfl, hb7⟩
  have B7 := hid (B6.out.trans (hb7.mono B6.out.size))
  have X7 := hid (X6.out.later hb7)
  have XE7 := hid (XE6.out.later hb7)
  clear d1 a0 hb7
  cases b2
  ·go_wp2_with fail
   go_ret
   exact ⟨ret_bool (by rw [← HS.out]; simp), B7.out⟩
  have d1 := box_get X7.out HY.out.2.2.2.1
  have a0 := box_get XE7.out (j := 3) rfl
  go_wp2_with fail
  with_reducible refine (H3.out _ B7.out).mono ?_
  rintro e W8 ⟨rfl, hb8⟩
  go_wp2_with fail
  go_ret
  exact ⟨ret_bool (by rw [← HS.out]; simp), B7.out.trans (hb8.mono B7.out.size)⟩
/- Contracts of tree.rightStmt and tree.rightStmts. -/

theorem enSt : Enters 102 := enters_of Tryz.func102 (by kernel_rfl) rfl
theorem enSs : Enters 73 := enters_of Tryz.func73 (by kernel_rfl) rfl
theorem enNE : Enters 143 := enters_of Tryz.func143 (by kernel_rfl) rfl
theorem enNS : Enters 144 := enters_of Tryz.func144 (by kernel_rfl) rfl

theorem Ex.cells_len (e : Ex) : e.cells.length = 5 := by obtain ⟨k, n, l, m, v, ks⟩ := e; rfl
theorem Ones.app {a b : List Value} (h : Ones a) (k : Ones b) : Ones (a ++ b) := by
 unfold Ones at *
 rw [List.all_toArray] at *
 rw [List.all_append, h, k]; rfl
theorem st_ones {w : World} {s : St} (h : s.In w) : Ones s.cells := by
 obtain ⟨k, name, p, e, tv, thn, ev, els⟩ := s
 rw [St.In] at h
 obtain ⟨tp, tc, rfl, _⟩ := h.2.2.1
 obtain ⟨ep, ec, rfl, _⟩ := h.2.2.2.2.1
 unfold St.cells
 refine Ones.app (Ones.app (Ones.app ?_ (ex_ones h.1)) (ex_ones h.2.1)) ?_
 ·unfold Ones; simp [Value.oneCell']
 ·unfold Ones; simp [Value.oneCell']

set_option maxHeartbeats 2000000 in
theorem rightSs_of (v : Value) (w : World) (b : Bool) (H : Answers w 101 #[v, .func (.func 102) #[] #[]] b) : Calls Tryz.prog 73 #[v] w fun r w' => r = .returned (.bool b) ∧ Below w.heap.size w w' := by
 unfold Answers at H
 have H1 := hid H
 clear H
 go_enter Tryz.func73, Tryz.ntmps73
 go_wp2_with fail
 with_reducible refine (H1.out _ (Below.refl _ _)).mono ?_
 rintro e W1 ⟨rfl, hb1⟩
 go_wp2_with fail
 go_ret
 exact ⟨rfl, hb1⟩

set_option maxHeartbeats 8000000 in
set_option maxRecDepth 100000 in
theorem rightS_no (w : World) (k : Int) (cs : List Value) (hk : k < 1 ∨ 5 ≤ k) (hy : cs[0]? = some (.int .i64 k)) :
  Calls Tryz.prog 102 #[.agg cs.toArray] w fun r w' => r = .returned (.bool false) ∧ Below w.heap.size w w' := by
 have HY := hid hy
 clear hy
 have X0 := hid (BoxAt.new w cs 68)
 have B0 : Hid (Below w.heap.size w (w.alloc (.cells cs.toArray 68 (0, 0)))) := hid ((Below.refl _ _).alloc (Nat.le_refl _) _)
 have hz : Hid ((Tryz.prog.info? 191).map (·.size) = some tabS.toArray.size) := hid (show (Tryz.prog.info? 191).map (·.size) = some 20 by kernel_rfl)
 have ho : Hid (tabS.toArray.all (·.oneCell') = true) := hid (by kernel_rfl)
 go_enter Tryz.func102, Tryz.ntmps102
 go_wp2_with fail
 refine (stmtKinds_any _).mono ?_
 rintro e W1 ⟨rfl, hb1⟩
 generalize w.alloc _ = W0 at *
 have X1 := hid (X0.out.later hb1)
 have B1 := hid (B0.out.trans (hb1.mono B0.out.size))
 clear hb1
 go_wp2_with (with_reducible refine wpList_store_row (o := ⟨none, _, _, _, _, _⟩) rfl _ _ _ rfl W1.heap.size tabS.toArray rfl ?r1 _ _ (heap_alloc_new _ _) hz.out ?r2 ho.out ?_)
 case r1 => rfl
 case r2 => rfl
 generalize hW2 : (World.alloc W1 _).setRow _ _ = W2
 have hb2 : Below W1.heap.size W1 W2 := by rw [← hW2]; exact rowed_below' _ _ _
 have X2 := hid (X1.out.later hb2)
 have B2 := hid (B1.out.trans (hb2.mono B1.out.size))
 clear hW2 hb2
 have d0 := box_get X2.out HY.out
 have hlt0 : w.heap.size < W2.heap.size := World.block_lt_of_cell? _ _ d0
 have hlt1 : w.heap.size ≠ W2.heap.size := by omega
 simp only [Act.put]
 have CA : Hid (∀ W, Below W2.heap.size W2 W → Calls Tryz.prog 124 #[.slice (some ⟨W1.heap.size, 0, none⟩) 5 5, .int .i64 k] W fun r w' => r = .returned (.tuple #[.agg #[.nilFunc, .nilFunc, .nilFunc, .nilFunc], .bool false]) ∧ Below W.heap.size W w') :=
  hid fun W hb => atS_no W W1.heap.size k hk
 go_cut [4, 5] (fun u v wx => ∃ m : Nat, u = .pointer (some ⟨m, 0, none⟩) ∧ v = .bool false ∧ Hid (BoxAt wx m (entS 0) ∧ Below W2.heap.size W2 wx))
 case first =>
  go_region_with (go_at_call 124; refine (CA.out _ ?_).mono ?_; rotate_left; rintro e W3 ⟨rfl, hb3⟩; obtain ⟨hc3, hf3⟩ := bcell hb3; rotate_left; (first | exact (Below.refl _ _).drew | exact ((Below.refl _ _).drew).alloc (Nat.le_refl _) _ | exact ((Below.refl _ _).alloc (Nat.le_refl _) _).drew))
  all_goals go_wp2_with fail
  all_goals simp only [Act.put, List.getElem_toArray, List.getElem_cons_succ, List.getElem_cons_zero, List.setIfInBounds_toArray, List.set_cons_zero, List.set_cons_succ]
  all_goals go_meet
  ·have e := laid_behind (W2 := W2) (entS 0) 190 ⟨hb3.os, hb3.tape, hb3.output, hb3.size, hb3.block⟩
   exact ⟨_, rfl, rfl, hid e⟩
  ·have e := laid_ahead (W2 := W2) (entS 0) (entS 0) 190 rfl ⟨hb3.os, hb3.tape, hb3.output, hb3.size, hb3.block⟩
   exact ⟨_, rfl, rfl, hid e⟩
  ·have e := laid_ahead (W2 := W2) (entS 0) (entS 0) 190 rfl ⟨hb3.os, hb3.tape, hb3.output, hb3.size, hb3.block⟩
   exact ⟨_, rfl, rfl, hid e⟩
 case rest =>
  obtain ⟨m, rfl, rfl, hB⟩ := hcut
  have B3 := hid (B2.out.trans (hB.out.2.mono B2.out.size))
  clear hB d0 hlt0 hlt1 CA
  go_wp2_with fail
  go_ret
  exact ⟨rfl, B3.out⟩

theorem eq_s (a b e T E t x : Bool) : (a && b && e && (T && t) && (E && x)) = (e && (T && t) && (E && x) && (a && b)) := by
 cases a <;> cases b <;> cases e <;> cases T <;> cases E <;> cases t <;> cases x <;> rfl
theorem eq_let (a b e : Bool) (l m : List St) : (a && b && e && (l.length == 0) && (m.length == 0)) = (e && (rightSs l && decide (l.length ≤ 30)) && (rightSs m && decide (m.length ≤ 30)) && (a && b && l.length + m.length == 0)) := by
 cases l with
 | cons x l => simp
 | nil =>
  cases m with
  | cons x m => simp
  | nil => cases a <;> cases b <;> cases e <;> rfl
theorem eq_rep (a b e : Bool) (l m : List St) : (a && b && e && (rightSs l && decide (l.length ≤ 30)) && (m.length == 0)) = (e && (rightSs l && decide (l.length ≤ 30)) && (rightSs m && decide (m.length ≤ 30)) && (a && b && m.length == 0)) := by
 cases m with
 | cons x m => simp
 | nil => generalize (rightSs l && decide (l.length ≤ 30)) = q; cases a <;> cases b <;> cases e <;> cases q <;> rfl

set_option maxHeartbeats 4000000 in
theorem rightS_any : ∀ (n : Nat) (t : St) (w : World), wS t ≤ n → n ≤ 1048576 → t.In w → Tabs w → Calls Tryz.prog 102 #[t.val] w fun r w' => r = .returned (.bool (rightS t)) ∧ Below w.heap.size w w' := by
 intro n
 induction n with
 | zero => intro t w h; obtain ⟨k, name, place, expr, tv, thn, ev, els⟩ := t; rw [wS] at h; omega
 | succ n ih =>
  intro t w hw hn hin T
  have hones := st_ones hin
  obtain ⟨k, name, place, expr, tv, thn, ev, els⟩ := t
  rw [wS] at hw
  rw [St.In] at hin
  obtain ⟨hp, he, htl, hts, hel, hes⟩ := hin
  have hlT := wSs_len thn
  have hlE := wSs_len els
  have every : ∀ (v : Value) (l : List St), wSs l ≤ n → Lies w 14 v (l.map St.cells) → St.Ins w l → Answers w 73 #[v] (l.all rightS && decide (l.length ≤ 30)) := fun v l hwl hl hs W hb =>
   rightSs_of v W _ fun W2 hb2 => every_stSize 102 rightS enSt W2 v l (hl.keep (Keeps.of_below (hb.trans (hb2.mono hb.size)))) (by have := wSs_len l; omega) (fun x hx => st_ones ((St.ins_iff w l).1 hs x hx)) (fun x hx W3 hb3 => by
    obtain ⟨i, hi, e⟩ := List.mem_iff_getElem.1 hx
    have := wSs_get l i x (by rw [List.getElem?_eq_getElem hi, e])
    have hb' := (hb.trans (hb2.mono hb.size)).trans (hb3.mono (hb.trans (hb2.mono hb.size)).size)
    exact ih x W3 (by omega) (by omega) (St.In.keep (Keeps.of_below hb') x ((St.ins_iff w l).1 hs x hx)) (T.below hb'))
  have cT := every tv thn (by omega) htl hts
  have cE := every ev els (by omega) hel hes
  rw [← rightSs_all] at cT cE
  have cX : Answers w 75 #[.agg expr.cells.toArray] (rightE expr) := fun W hb => rightE_any (wE expr) expr W (Nat.le_refl _) (by omega) (he.keep (Keeps.of_below hb)) (T.below hb)
  have cP : Answers w 128 #[.agg place.cells.toArray] (place.place && rightE place) := fun W hb => rightPlace_of place W fun W2 hb2 => rightE_any (wE place) place W2 (Nat.le_refl _) (by omega) (hp.keep (Keeps.of_below (hb.trans (hb2.mono hb.size)))) (T.below (hb.trans (hb2.mono hb.size)))
  have cN : Answers w 143 #[.agg place.cells.toArray] place.none := fun W hb => noExpr_any place W (hp.keep (Keeps.of_below hb)) (by omega)
  have cS0 : Answers w 120 #[.string name] _ := Answers.of_same fun W => noneS_any name W
  have cNa : Answers w 68 #[.string name] (nameB (bs name)) := fun W hb => isName_any name W (by omega) (T.below hb)
  obtain ⟨tp, tc, rfl, _, _⟩ := id htl
  obtain ⟨ep, ec, rfl, _, _⟩ := id hel
  rw [List.length_map, List.length_map] at *
  have cT0 : Answers w 144 #[.slice tp thn.length tc] _ := Answers.of_same fun W => noStmts_any tp thn.length tc W (by omega)
  have cE0 : Answers w 144 #[.slice ep els.length ec] _ := Answers.of_same fun W => noStmts_any ep els.length ec W (by omega)
  rw [rightS]
  by_cases hk5 : k < 1 ∨ 5 ≤ k
  ·have h := rightS_no w k (St.mk k name place expr (.slice tp thn.length tc) thn (.slice ep els.length ec) els).cells hk5 rfl
   have e : (rightE expr && (rightSs thn && decide (thn.length ≤ 30)) && (rightSs els && decide (els.length ≤ 30)) && askS k (bs name) place thn.length els.length) = false := by
    unfold askS
    rw [if_neg (by omega), if_neg (by omega), if_neg (by omega), if_neg (by omega), Bool.and_false]
   rw [e]
   exact h
  ·obtain ⟨m, rfl⟩ : ∃ m : Nat, k = (m : Int) := ⟨k.toNat, by omega⟩
   have hy : ∀ m : Nat, let cs := (St.mk (m : Int) name place expr (.slice tp thn.length tc) thn (.slice ep els.length ec) els).cells
     cs[0]? = some (.int .i64 (m : Int)) ∧ cs[1]? = some (.string name) ∧ cs[12]? = some (.slice tp thn.length tc) ∧ cs[13]? = some (.slice ep els.length ec) ∧ (∀ j u, place.cells[j]? = some u → cs[2 + j]? = some u) ∧ (∀ j u, expr.cells[j]? = some u → cs[7 + j]? = some u) :=
    fun m => ⟨rfl, rfl, St.cells_tv .., St.cells_ev .., fun j u h => St.cells_place h, fun j u h => St.cells_expr h⟩
   have go : ∀ {b c : Bool}, b = c → (Calls Tryz.prog 102 #[(St.mk (m : Int) name place expr (.slice tp thn.length tc) thn (.slice ep els.length ec) els).val] w fun r w' => r = .returned (.bool b) ∧ Below w.heap.size w w') → (Calls Tryz.prog 102 #[(St.mk (m : Int) name place expr (.slice tp thn.length tc) thn (.slice ep els.length ec) els).val] w fun r w' => r = .returned (.bool c) ∧ Below w.heap.size w w') := fun e h => e ▸ h
   rcases (show m = 1 ∨ m = 2 ∨ m = 3 ∨ m = 4 by omega) with rfl | rfl | rfl | rfl
   ·refine go ?_ (rightS_gen w 1 _ place.cells expr.cells name tp ep thn.length tc els.length ec _ _ _ _ _ _ _ _ _ (by omega) (by omega) (by omega) (by omega) (hy 1) (Ex.cells_len _) (Ex.cells_len _) rfl enNa enNE enNS enNS cNa cN cX cT0 cE0)
    exact eq_let _ _ _ thn els
   ·refine go ?_ (rightS_gen w 2 _ place.cells expr.cells name tp ep thn.length tc els.length ec _ _ _ _ _ _ _ _ _ (by omega) (by omega) (by omega) (by omega) (hy 2) (Ex.cells_len _) (Ex.cells_len _) rfl enS0 enP enNS enNS cS0 cP cX cT0 cE0)
    refine (eq_let _ _ _ thn els).trans ?_
    rw [← Bool.and_assoc (bs name).isEmpty]; rfl
   ·refine go ?_ (rightS_gen w 3 _ place.cells expr.cells name tp ep thn.length tc els.length ec _ _ _ _ _ _ _ _ _ (by omega) (by omega) (by omega) (by omega) (hy 3) (Ex.cells_len _) (Ex.cells_len _) rfl enS0 enNE enSs enSs cS0 cN cX cT cE)
    exact eq_s _ _ _ _ _ _ _
   ·refine go ?_ (rightS_gen w 4 _ place.cells expr.cells name tp ep thn.length tc els.length ec _ _ _ _ _ _ _ _ _ (by omega) (by omega) (by omega) (by omega) (hy 4) (Ex.cells_len _) (Ex.cells_len _) rfl enS0 enNE enSs enNS cS0 cN cX cT cE0)
    exact eq_rep _ _ _ thn els
theorem rightSs_any (v : Value) (l : List St) (w : World) (hw : wSs l ≤ 1048576) (hl : Lies w 14 v (l.map St.cells)) (hs : St.Ins w l) (T : Tabs w) : Calls Tryz.prog 73 #[v] w fun r w' => r = .returned (.bool (rightL l)) ∧ Below w.heap.size w w' := by
  unfold rightL
  rw [rightSs_all]
  exact rightSs_of v w _ fun W hb => every_stSize 102 rightS enSt W v l (hl.keep (Keeps.of_below hb)) (by have := wSs_len l; omega) (fun x hx => st_ones ((St.ins_iff w l).1 hs x hx)) (fun x hx W3 hb3 => by
        obtain ⟨i, hi, e⟩ := List.mem_iff_getElem.1 hx
        have := wSs_get l i x (by rw [List.getElem?_eq_getElem hi, e])
        have hb' := hb.trans (hb3.mono hb.size)
        exact rightS_any (wS x) x W3 (Nat.le_refl _) (by omega) (St.In.keep (Keeps.of_below hb') x ((St.ins_iff w l).1 hs x hx)) (T.below hb'))
end Go.Proofs.YtemflcojebanlaaGreatDoor.TreeC
/- Rows of strings that a call owns: laid, appended to (one, several, none), in plain regions and in those that draw their order. -/
namespace Go.Proofs.YtemflcojebanlaaGreatDoor.NmC
open Go Go.RowKit Go.Lib Go.Sort LexP TreeP LexC TreeC NmP

theorem st_info : (Tryz.prog.info? 9).map (fun i => (i.zero, i.size, i.bytes)) = some (some (.string ⟨#[]⟩), 1, 16) := by kernel_rfl
/-- the cells of a row of strings -/
def strC (l : List ByteArray) : List Value := l.map Value.string
theorem strC_one {l : List ByteArray} : ∀ u ∈ strC l, u.oneCell' = true := by
 intro u hu
 obtain ⟨s, _, rfl⟩ := List.mem_map.1 hu
 rfl
theorem strC_app (l m : List ByteArray) : strC (l ++ m) = strC l ++ strC m := by simp [strC]
/-- a row of strings that is the call's own -/
def OwnN (w : World) (base : Nat) (v : Value) (l : List ByteArray) : Prop := w.ownsRow base 9 1 v l.length (strC l)
theorem OwnN.below {w w' : World} {base : Nat} {v : Value} {l : List ByteArray} (h : OwnN w base v l) (hb : Below w.heap.size w w') : OwnN w' base v l := owns_below h hb
theorem OwnN.names {w : World} {base : Nat} {v : Value} {l : List ByteArray} (h : OwnN w base v l) (hl : l.length ≤ 1048576) : Names w v l := by
 refine ⟨?_, hl⟩
 obtain ⟨h1, ⟨rfl, h2⟩ | ⟨g, cap, cur, rfl, h3, h4, h5, h6, h7, h8⟩⟩ := id h
 ·exact ⟨none, 0, by rw [List.length_map, h2], by rw [List.length_map]; omega, fun hne => by cases l with | nil => exact absurd rfl hne | cons _ _ => simp at h2⟩
 ·refine ⟨some ⟨g, 0, none⟩, cap, by rw [List.length_map], by rw [List.length_map]; exact h5, fun _ => ⟨g, 0, rfl, fun i c hi j u hj => ?_⟩⟩
  rw [List.getElem?_map] at hi
  obtain ⟨s, hs, rfl⟩ := Option.map_eq_some_iff.1 hi
  have hj0 : j = 0 := by
   have := (List.getElem?_eq_some_iff.1 hj).1
   simp [nmCells] at this
   exact this
  subst hj0
  cases hj
  have hi' : i < l.length := (List.getElem?_eq_some_iff.1 hs).1
  have := h.cellAt i (by omega)
  rw [Nat.zero_add, Nat.mul_one, Nat.add_zero, this, strC, List.getElem?_map, hs]
  rfl
theorem own_nil (w : World) (base : Nat) : OwnN w base (.slice none 0 0) [] := ⟨rfl, .inl ⟨rfl, rfl⟩⟩
theorem own_empty (w : World) (base : Nat) (hb : base ≤ w.heap.size) : OwnN (w.alloc (.cells #[] 9 (0, 0))) base (.slice (some ⟨w.heap.size, 0, none⟩) 0 0) [] :=
 ⟨rfl, .inr ⟨w.heap.size, 0, #[], rfl, hb, heap_alloc_new _ _, Nat.le_refl _, Nat.zero_le _, rfl, rfl⟩⟩

section
variable {w : World}
theorem run_append_names {base : Nat} {ty : TypeId} {v vx : Value} {l m : List ByteArray} (hown : OwnN w base v l) (hl : Lies w 1 vx (m.map nmCells)) (hlen : l.length + m.length ≤ 4194304) (hbase : base ≤ w.heap.size) :
  ∃ v' w', (Builtin.append_ #[35, 35] ty #[v, vx]).run Tryz.prog w = .ok v' w' ∧ OwnN w' base v' (l ++ m) ∧ w.grownBy w' v.ownBlock := by
 obtain ⟨i0, hinf, hz0, hz1, hz2⟩ := info_parts st_info
 obtain ⟨p, cap, rfl, hcap, hp⟩ := id hl
 cases p with
 | none =>
  have hnil : m = [] := by
   cases m with
   | nil => rfl
   | cons a l => obtain ⟨_, _, e, _⟩ := hp (by simp); cases e
  subst hnil
  refine ⟨v, w, ?_, by simpa using hown, ⟨rfl, rfl, rfl, Nat.le_refl _, fun _ _ _ => rfl⟩⟩
  rcases hown.2 with ⟨rfl, _⟩ | ⟨g, cap, cur, rfl, _, _, hnc, _⟩
  ·simp [Builtin.append_, run_underlying Tryz.underlying35, sizeOf, typeInfo, hinf, Builtin.lenOf, Builtin.firstCells]
  ·simp [Builtin.append_, run_underlying Tryz.underlying35, sizeOf, typeInfo, hinf, Builtin.lenOf, Builtin.firstCells, hnc, storeCells]
 | some ad =>
  have hfl : ∀ (j : Nat) (u : Value), (strC m)[j]? = some u → w.cell? (ad.add j) = some u := fun j u hj => by
   rw [strC, List.getElem?_map] at hj
   obtain ⟨s, hs, rfl⟩ := Option.map_eq_some_iff.1 hj
   obtain ⟨b, off, e, hc⟩ := hp (by intro e; rw [List.map_eq_nil_iff] at e; simp [e] at hs)
   have e' : ad = ⟨b, off, none⟩ := Option.some.inj e
   subst e'
   have := hc j (nmCells s) (by rw [List.getElem?_map, hs]; rfl) 0 _ rfl
   rw [show (⟨b, off, none⟩ : Addr).add j = ⟨b, off + j * 1 + 0, none⟩ by simp [Addr.add]]
   exact this
  rw [List.length_map]
  obtain ⟨v', w', hr, h2, h3, _⟩ := run_append_own_at (P := Tryz.prog) w base 35 ty 9 i0 _ 1 16 Tryz.underlying35 hinf hz0 hz1 hz2 rfl (by decide) v l.length (strC l) hown ad m.length cap (strC m) (by simp [strC]) hfl strC_one (by unfold maxLen; omega) (by omega) hbase
  exact ⟨v', w', hr, by unfold OwnN; rw [List.length_append, strC_app]; exact h2, h3⟩
theorem step_append_names {ops : Array Oper} {o : Oper} {a : Act} {K : Act → World → Prop} {Q : Exit → Act → World → Prop} {E : Prop} (hgd : o.guard = none) (s x : Operand)
  (ho : o.op = .call { callee := .builtin .append, args := #[s, x], argTypes := #[35, 35] }) (base : Nat) (v vx : Value) (l m : List ByteArray) (hs : a.eval s = v) (hx : a.eval x = vx)
  (hown : OwnN w base v l) (hl : Lies w 1 vx (m.map nmCells)) (hlen : l.length + m.length ≤ 4194304) (hbase : base ≤ w.heap.size)
  (h : ∀ v' w', OwnN w' base v' (l ++ m) → w.grownBy w' v.ownBlock → K (a.put o.dst v') w') :
  if Region.wanted o (yielded ops a.tmps) = true then Oper.wp Tryz.prog o a w K Q else E := by
 rw [if_pos (by simp [Region.wanted, hgd])]
 obtain ⟨v', w', hr, h2, h3⟩ := run_append_names (ty := o.type) hown hl hlen hbase
 unfold Oper.wp execOp
 simp only [ho, resolve, invoke, builtin, Sem.run_bind, Sem.run_pure, Result.andThen_ok, List.map_toArray, List.map_cons, List.map_nil, hs, hx, hr]
 exact h v' w' h2 h3
theorem wpList_append_names {ops : Array Oper} {rest : List Oper} {o : Oper} {a : Act} {Q : Exit → Act → World → Prop} (hgd : o.guard = none) (s x : Operand)
  (ho : o.op = .call { callee := .builtin .append, args := #[s, x], argTypes := #[35, 35] }) (base : Nat) (v vx : Value) (l m : List ByteArray) (hs : a.eval s = v) (hx : a.eval x = vx)
  (hown : OwnN w base v l) (hl : Lies w 1 vx (m.map nmCells)) (hlen : l.length + m.length ≤ 4194304) (hbase : base ≤ w.heap.size)
  (h : ∀ v' w', OwnN w' base v' (l ++ m) → w.grownBy w' v.ownBlock → wpList Tryz.prog ops Q rest (a.put o.dst v') w') : wpList Tryz.prog ops Q (o :: rest) a w := by
 refine wpList_plain hgd fun K hK => ?_
 obtain ⟨v', w', hr, h2, h3⟩ := run_append_names (ty := o.type) hown hl hlen hbase
 unfold Oper.wp execOp
 simp only [ho, resolve, invoke, builtin, Sem.run_bind, Sem.run_pure, Result.andThen_ok, List.map_toArray, List.map_cons, List.map_nil, hs, hx, hr]
 exact hK _ _ (h v' w' h2 h3)
end
/-- what was below the call's own rows stays, when one of them grows -/
theorem own_grown {w W W' : World} {base : Nat} {v : Value} {l : List ByteArray} (h : OwnN W base v l) (g : W.grownBy W' v.ownBlock) (k : Below w.heap.size w W) (hb : w.heap.size ≤ base) : Below w.heap.size w W' :=
 k.grown g k.size (fun r hr => by
  obtain ⟨_, ⟨rfl, _⟩ | ⟨g', cap, cur, rfl, h3, _⟩⟩ := id h
  ·cases hr
  ·have : g' = r := by simpa [Value.ownBlock] using hr
   omega)
/-- as step_append_names, with what is kept since a world -/
theorem step_append_since {ops : Array Oper} {o : Oper} {a : Act} {K : Act → World → Prop} {Q : Exit → Act → World → Prop} {E : Prop} {w : World} (W0 : World) (hgd : o.guard = none) (s x : Operand)
  (ho : o.op = .call { callee := .builtin .append, args := #[s, x], argTypes := #[35, 35] }) (v vx : Value) (l m : List ByteArray) (hs : a.eval s = v) (hx : a.eval x = vx)
  (hown : OwnN w W0.heap.size v l) (hl : Lies w 1 vx (m.map nmCells)) (hlen : l.length + m.length ≤ 4194304) (hbel : Below W0.heap.size W0 w)
  (h : ∀ v' w', OwnN w' W0.heap.size v' (l ++ m) → Below W0.heap.size W0 w' → (∀ b o u, some b ≠ v.ownBlock → w.cell? ⟨b, o, none⟩ = some u → w'.cell? ⟨b, o, none⟩ = some u) → K (a.put o.dst v') w') :
  if Region.wanted o (yielded ops a.tmps) = true then Oper.wp Tryz.prog o a w K Q else E :=
 step_append_names hgd s x ho W0.heap.size v vx l m hs hx hown hl hlen hbel.size fun v' w' h1 h2 => h v' w' h1 (own_grown hown h2 hbel (Nat.le_refl _)) fun b o u hne hc => by
  rw [h2.cell_far ⟨b, o, none⟩ (World.block_lt_of_cell? _ _ hc) hne]; exact hc
/-- a box with one string, as a slice of one -/
theorem one_lies {w : World} {b c : Nat} {s : ByteArray} (hc : 1 ≤ c) (h : w.cell? ⟨b, 0, none⟩ = some (.string s)) : Lies w 1 (.slice (some ⟨b, 0, none⟩) 1 c) ([s].map nmCells) :=
 ⟨_, c, rfl, hc, fun _ => ⟨b, 0, rfl, fun i c' hi j u hj => by
  have hi0 : i = 0 := by have := (List.getElem?_eq_some_iff.1 hi).1; simp at this; exact this
  subst hi0
  cases hi
  have hj0 : j = 0 := by have := (List.getElem?_eq_some_iff.1 hj).1; simp [nmCells] at this; exact this
  subst hj0
  cases hj
  exact h⟩⟩
end Go.Proofs.YtemflcojebanlaaGreatDoor.NmC
/- Sets of names, and what functions ahead have: the program's maps. -/
namespace Go.Proofs.YtemflcojebanlaaGreatDoor.NmC
open Go Go.RowKit Go.Lib Go.Sort Go.Maps LexP TreeP LexC TreeC NmP

theorem KK : Keyed Tryz.prog 9 := string_keyed Tryz.underlying9
noncomputable abbrev RB : Value → Option (DataW Unit × List MemPlace) := plainElem Tryz.prog 4
noncomputable abbrev RI : Value → Option (DataW Unit × List MemPlace) := plainElem Tryz.prog 3
/-- what a name reads as -/
abbrev ky (s : Nm) : Lit := .string s
theorem key_of {s : ByteArray} (hs : s.size ≤ 1048576) : keyOf Tryz.prog 9 (.string s) = some (ky (bs s)) := WideMaps.keyOf_string_mk Tryz.underlying9 (by unfold maxLen; omega)
theorem key_lit {s : ByteArray} (hs : s.size ≤ 1048576) : WideAt.IsKeyLit (ky (bs s)) := KK.key (key_of hs)
theorem zero_bool (w : World) : (zeroValue 4).run Tryz.prog w = .ok (.bool false) w := by kernel_rfl
theorem zero_int (w : World) : (zeroValue 3).run Tryz.prog w = .ok (.int .i64 0) w := by kernel_rfl
theorem bool_inv {H : Type} {P : Program} {e : TypeId} (he : P.underlying e = some .bool) {v : Value} {z : DataW H × List MemPlace} (h : plainElem P e v = some z) : ∃ x, v = .bool x ∧ z = (.lit (.bool x), []) := by
 unfold plainElem at h
 rw [he] at h
 cases v <;> simp at h
 exact ⟨_, rfl, h.symm⟩
theorem rb_inv {v : Value} {z : DataW Unit × List MemPlace} (h : RB v = some z) : ∃ x, v = .bool x ∧ z = (.lit (.bool x), []) := bool_inv Tryz.underlying4 h
theorem wf_nat {n : Nat} (h : n ≤ 1048576) : (Lit.int .i64 (n : Int)).wf = true := by
 have h1 : IntKind.i64.min = -9223372036854775808 := by decide
 have h2 : IntKind.i64.max = 9223372036854775807 := by decide
 show (decide (IntKind.i64.min ≤ (n : Int)) && decide ((n : Int) ≤ IntKind.i64.max)) = true
 rw [h1, h2]
 simp
 omega

/-- a set of names, as the map that holds them -/
def VarsAt (w : World) (b : Nat) (scope : List Nm) : Prop :=
 ∃ D, w.ownsMap Tryz.prog 9 RB b scope.length D ∧ (∀ s, has D (ky s) = scope.contains s) ∧ ∀ s z, scope.contains s = true → D.atKey (ky s) z = .lit (.bool true)
theorem VarsAt.lt {w : World} {b : Nat} {scope : List Nm} (h : VarsAt w b scope) : b < w.heap.size := by obtain ⟨D, h, _⟩ := h; exact h.lt
theorem VarsAt.kept {w w' : World} {b : Nat} {scope : List Nm} {row : Option Nat} (h : VarsAt w b scope) (hg : w.grownBy w' row) (hne : some b ≠ row) : VarsAt w' b scope := by
 obtain ⟨D, h1, h2⟩ := h; exact ⟨D, h1.kept hg hne, h2⟩
theorem VarsAt.below {w w' : World} {b : Nat} {scope : List Nm} (h : VarsAt w b scope) (hb : Below w.heap.size w w') : VarsAt w' b scope :=
 h.kept (row := none) ⟨hb.os, hb.tape, hb.output, hb.size, fun i hi _ => hb.block i hi⟩ (by simp)
theorem VarsAt.map {w : World} {b : Nat} {scope : List Nm} (h : VarsAt w b scope) : ∃ es c, w.heap[b]? = some (.map es c) := by
 obtain ⟨D, ⟨es, c, h, _⟩, _⟩ := h; exact ⟨es, c, h⟩
/-- names, and how many Params the function of each has -/
def AheadAt (w : World) (b : Nat) (l : List TreeP.Fn) : Prop :=
 ∃ D, w.ownsMap Tryz.prog 9 RI b l.length D ∧ (∀ s, has D (ky s) = (parsN s l).isSome) ∧ ∀ s z n, parsN s l = some n → D.atKey (ky s) z = .lit (.int .i64 (n : Int))
theorem AheadAt.lt {w : World} {b : Nat} {l : List TreeP.Fn} (h : AheadAt w b l) : b < w.heap.size := by obtain ⟨D, h, _⟩ := h; exact h.lt
theorem AheadAt.kept {w w' : World} {b : Nat} {l : List TreeP.Fn} {row : Option Nat} (h : AheadAt w b l) (hg : w.grownBy w' row) (hne : some b ≠ row) : AheadAt w' b l := by
 obtain ⟨D, h1, h2⟩ := h; exact ⟨D, h1.kept hg hne, h2⟩
theorem AheadAt.below {w w' : World} {b : Nat} {l : List TreeP.Fn} (h : AheadAt w b l) (hb : Below w.heap.size w w') : AheadAt w' b l :=
 h.kept (row := none) ⟨hb.os, hb.tape, hb.output, hb.size, fun i hi _ => hb.block i hi⟩ (by simp)
theorem AheadAt.map {w : World} {b : Nat} {l : List TreeP.Fn} (h : AheadAt w b l) : ∃ es c, w.heap[b]? = some (.map es c) := by
 obtain ⟨D, ⟨es, c, h, _⟩, _⟩ := h; exact ⟨es, c, h⟩
theorem ahead_made (w : World) : AheadAt (w.alloc (.map #[] 0)) w.heap.size [] := ⟨.map [], World.ownsMap_made _ _ _ _, fun s => rfl, fun s z n h => by cases h⟩
/-- no cell lies in a map's block: what is read stays, when a map alone is written -/
theorem keeps_map {w w' : World} {b : Nat} (hm : ∃ es c, w.heap[b]? = some (.map es c)) (hg : w.grownBy w' (some b)) : Keeps w w' := fun k o u hc => by
 have hlt := World.block_lt_of_cell? _ _ hc
 by_cases e : k = b
 ·subst e
  obtain ⟨es, c, h⟩ := hm
  rw [World.cell?, h] at hc
  cases hc
 ·rw [hg.cell_far ⟨k, o, none⟩ hlt (by simpa using e)]; exact hc

section
variable {w : World}
theorem vars_look {b : Nat} {scope : List Nm} {s : ByteArray} (h : VarsAt w b scope) (hs : s.size ≤ 1048576) : (Instr.lookup 81 (.map (some b)) (.string s) false).run Tryz.prog w = .ok (.bool (scope.contains (bs s))) w := by
 obtain ⟨D, h1, h2, h3⟩ := h
 obtain ⟨v, ps, hrun, hv⟩ := h1.lookup KK Tryz.underlying81 (zero_bool w) (plainElem_bool Tryz.underlying4 false) (key_of hs)
 rw [hrun]
 obtain ⟨x, rfl, hx⟩ := rb_inv hv
 have hx := congrArg Prod.fst hx
 simp only at hx
 cases hc : scope.contains (bs s) with
 | true => rw [h3 _ _ hc] at hx; cases hx; rfl
 | false =>
  rw [atKey_of_not_has (by rw [h2, hc])] at hx
  cases hx
  rfl
theorem vars_put {b : Nat} {scope : List Nm} {s : ByteArray} (h : VarsAt w b scope) (hs : s.size ≤ 1048576) (hl : scope.length ≤ 4194304) :
  ∃ w', (Instr.mapUpdate 81 (.map (some b)) (.string s) (.bool true)).run Tryz.prog w = .ok () w' ∧ VarsAt w' b (scope ++ [bs s]) ∧ w.grownBy w' (some b) := by
 obtain ⟨D, h1, h2, h3⟩ := h
 obtain ⟨w', hrun, hown, hg⟩ := h1.update KK Tryz.underlying81 (by unfold maxLen; omega) (key_of hs) (plainElem_bool Tryz.underlying4 true)
 have hI := h1.isMap
 refine ⟨w', hrun, ⟨_, by rw [List.length_append]; exact hown, fun t => ?_, fun t z ht => ?_⟩, hg⟩
 ·by_cases e : t = bs s
  ·subst e
   rw [has_put_same hI (key_lit hs)]
   simp
  ·rw [has_put_other (by simpa [ky] using e), h2]
   simp [e]
 ·by_cases e : t = bs s
  ·subst e
   exact atKey_put_same hI (key_lit hs) _ _
  ·rw [atKey_put_other (by simpa [ky] using e)]
   exact h3 t z (by simpa [e] using ht)
theorem ahead_look {b : Nat} {l : List TreeP.Fn} {s : ByteArray} (h : AheadAt w b l) (hs : s.size ≤ 1048576) :
  ∃ c : Int, (∀ n, parsN (bs s) l = some n → c = n) ∧ (Instr.lookup 60 (.map (some b)) (.string s) true).run Tryz.prog w = .ok (.tuple #[.int .i64 c, .bool (parsN (bs s) l).isSome]) w := by
 obtain ⟨D, h1, h2, h3⟩ := h
 obtain ⟨v, ps, hrun, hv⟩ := h1.look_ok KK Tryz.underlying60 (zero_int w) (plainElem_int Tryz.underlying3 (by decide)) (key_of hs)
 obtain ⟨c, rfl, hc, _⟩ := plainElem_int_inv Tryz.underlying3 hv
 refine ⟨c, fun n hn => ?_, by rw [hrun, h2]⟩
 have hc := congrArg Prod.fst hc
 simp only at hc
 rw [h3 _ _ _ hn] at hc
 cases hc
 rfl
theorem ahead_put {b : Nat} {l : List TreeP.Fn} {f : TreeP.Fn} (h : AheadAt w b l) (hs : f.name.size ≤ 1048576) (hl : l.length ≤ 4194304) (hn : parsN (bs f.name) l = none) (hp : f.pars.length ≤ 1048576) :
  ∃ w', (Instr.mapUpdate 60 (.map (some b)) (.string f.name) (.int .i64 (f.pars.length : Int))).run Tryz.prog w = .ok () w' ∧ AheadAt w' b (l ++ [f]) ∧ w.grownBy w' (some b) := by
 obtain ⟨D, h1, h2, h3⟩ := h
 obtain ⟨w', hrun, hown, hg⟩ := h1.update KK Tryz.underlying60 (by unfold maxLen; omega) (key_of hs) (plainElem_int Tryz.underlying3 (a := (f.pars.length : Int)) (wf_nat hp))
 have hI := h1.isMap
 refine ⟨w', hrun, ⟨_, by rw [List.length_append]; exact hown, fun t => ?_, fun t z n ht => ?_⟩, hg⟩
 ·rw [parsN_append]
  by_cases e : t = bs f.name
  ·subst e
   rw [has_put_same hI (key_lit hs), hn]
   simp
  ·rw [has_put_other (by simpa [ky] using e), h2]
   have : (bs f.name == t) = false := by simp; exact fun h => e h.symm
   rw [this]
   simp
 ·rw [parsN_append] at ht
  by_cases e : t = bs f.name
  ·subst e
   rw [hn] at ht
   simp at ht
   subst ht
   exact atKey_put_same hI (key_lit hs) _ _
  ·rw [atKey_put_other (by simpa [ky] using e)]
   have : (bs f.name == t) = false := by simp; exact fun h => e h.symm
   rw [this] at ht
   exact h3 t z n (by simpa using ht)
end
end Go.Proofs.YtemflcojebanlaaGreatDoor.NmC
