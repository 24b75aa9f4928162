/- Texts joined: TreeTH, TreeTI, TreeTM, TreeTN, TreeTO. -/
import Derived.Test.YtjkdcladjjpmoaaGreatDoorJ07
/- Contracts of tree.noExpr, and of tree.rightStmt out of contracts of what the kind asks. -/
namespace Go.Proofs.YtjkdcladjjpmoaaGreatDoor.TreeC
open Go Go.RowKit Go.Lib Go.Sort Go.Proofs.YtjkdcladjjpmoaaGreatDoor.LexP Go.Proofs.YtjkdcladjjpmoaaGreatDoor.TreeP Go.Proofs.YtjkdcladjjpmoaaGreatDoor.LexC

set_option maxHeartbeats 4000000 in
theorem noExpr_of (k num : Int) (name : ByteArray) (mt : Bool) (p : Option Addr) (L cap : Nat) (w : World) (_hn : L ≤ 1048576) :
    Calls Tryz.prog 214 #[.agg #[.int .i64 k, .int .i64 num, .string name, .bool mt, .slice p L cap]] w fun r w' => r = .returned (.bool (k == 0 && num == 0 && (bs name).isEmpty && !mt && L == 0)) ∧ Below w.heap.size w w' := by
  obtain ⟨R, hR⟩ : ∃ R, (k == 0 && num == 0 && (bs name).isEmpty && !mt && L == 0) = R := ⟨_, rfl⟩
  rw [hR]
  have HS := hid hR
  clear hR
  have B0 : Hid (Below w.heap.size w (w.alloc (.cells #[.int .i64 k, .int .i64 num, .string name, .bool mt, .slice p L cap] 51 (0, 0)))) := hid ((Below.refl _ _).alloc (Nat.le_refl _) _)
  have X0 := hid (BoxAt.new w [.int .i64 k, .int .i64 num, .string name, .bool mt, .slice p L cap] 51)
  go_enter Tryz.func214, Tryz.ntmps214
  go_wp2_with fail
  refine (noneN_any _ _).mono ?_
  rintro e W1 ⟨rfl, rfl⟩
  generalize hq0 : (k == 0) = q0
  generalize hW0 : w.alloc _ = W0 at *
  have d0 := box_get X0.out (j := 0) rfl
  have d1 := box_get X0.out (j := 1) rfl
  have d2 := box_get X0.out (j := 2) rfl
  have d3 := box_get X0.out (j := 3) rfl
  have d4 := box_get X0.out (j := 4) rfl
  cases q0
  · go_wp2_with fail
    go_ret
    exact ⟨ret_bool (by rw [← HS.out, hq0]; simp), B0.out⟩
  go_wp2_with fail
  refine (noneI_any _ _).mono ?_
  rintro e W1 ⟨rfl, rfl⟩
  generalize hq1 : (num == 0) = q1
  cases q1
  · go_wp2_with fail
    go_ret
    exact ⟨ret_bool (by rw [← HS.out, hq1]; simp), B0.out⟩
  go_wp2_with fail
  refine (noneS_any _ _).mono ?_
  rintro e W1 ⟨rfl, rfl⟩
  generalize hq2 : (bs name).isEmpty = q2
  cases q2
  · go_wp2_with fail
    go_ret
    exact ⟨ret_bool (by rw [← HS.out, hq2]; simp), B0.out⟩
  go_wp2_with fail
  refine (noneB_any _ _).mono ?_
  rintro e W1 ⟨rfl, rfl⟩
  cases mt
  · go_wp2_with fail
    go_ret
    exact ⟨ret_bool (by rw [← HS.out, hq0, hq1, hq2]; first | rfl | (rw [Bool.eq_iff_iff]; simp; done) | (rw [Bool.eq_iff_iff]; simp; omega)), B0.out⟩
  · go_wp2_with fail
    go_ret
    exact ⟨ret_bool (by rw [← HS.out]; simp), B0.out⟩
theorem noExpr_any (e : Ex) (w : World) (h : e.In w) (hw : wE e ≤ 1048576) : Calls Tryz.prog 214 #[e.val] w fun r w' => r = .returned (.bool e.none) ∧ Below w.heap.size w w' := by
  obtain ⟨k, num, name, mt, v, kids⟩ := e
  rw [Ex.In] at h
  rw [wE] at hw
  have hlen := wEs_len kids
  obtain ⟨p, cap, rfl, _⟩ := h.2.1
  rw [List.length_map]
  exact noExpr_of k num name mt p kids.length cap w (by omega)

set_option maxHeartbeats 8000000 in
set_option maxRecDepth 100000 in
theorem rightS_gen (w : World) (k : Nat) (cs pc ec : List Value) (name : ByteArray) (tp ep : Option Addr) (tl tc el ec' g0 g1 g2 g3 : Nat) (b0 b1 bE b2 b3 : Bool) (hk1 : 1 ≤ k) (hk2 : k < 5) (_htl : tl ≤ 1048576) (_hel : el ≤ 1048576)
    (hy : cs[0]? = some (.int .i64 (k : Int)) ∧ cs[1]? = some (.string name) ∧ cs[12]? = some (.slice tp tl tc) ∧ cs[13]? = some (.slice ep el ec') ∧ (∀ j u, pc[j]? = some u → cs[2 + j]? = some u) ∧ (∀ j u, ec[j]? = some u → cs[7 + j]? = some u))
    (hpl : pc.length = 5) (hcl : ec.length = 5)
    (hent : entS k = [fnV g0, fnV g1, fnV g2, fnV g3]) (en0 : Enters g0) (en1 : Enters g1) (en2 : Enters g2) (en3 : Enters g3)
    (C0 : Answers w g0 #[.string name] b0) (C1 : Answers w g1 #[.agg pc.toArray] b1) (CE : Answers w 82 #[.agg ec.toArray] bE)
    (C2 : Answers w g2 #[.slice tp tl tc] b2) (C3 : Answers w g3 #[.slice ep el ec'] b3) :
    Calls Tryz.prog 138 #[.agg cs.toArray] w fun r w' => r = .returned (.bool (b0 && b1 && bE && b2 && b3)) ∧ Below w.heap.size w w' := by
  unfold Answers at C0 C1 CE C2 C3
  unfold Enters at en0 en1 en2 en3
  obtain ⟨R, hR⟩ : ∃ R, (b0 && b1 && bE && b2 && b3) = R := ⟨_, rfl⟩
  rw [hR]
  have HS := hid hR
  have H0 := hid C0
  have H1 := hid C1
  have H2 := hid C2
  have H3 := hid C3
  have HE := hid CE
  have HEnt := hid hent
  have HY := hid hy
  have HSp : Hid ((Tryz.prog.info? 51).map (·.size) = some pc.length) := hid (by rw [hpl]; exact (show (Tryz.prog.info? 51).map (·.size) = some 5 by kernel_rfl))
  have HSe : Hid ((Tryz.prog.info? 51).map (·.size) = some ec.length) := hid (by rw [hcl]; exact (show (Tryz.prog.info? 51).map (·.size) = some 5 by kernel_rfl))
  clear hR C0 C1 C2 C3 CE hent hy hpl hcl
  have X0 := hid (BoxAt.new w cs 111)
  have B0 : Hid (Below w.heap.size w (w.alloc (.cells cs.toArray 111 (0, 0)))) := hid ((Below.refl _ _).alloc (Nat.le_refl _) _)
  have hz : Hid ((Tryz.prog.info? 249).map (·.size) = some tabS.toArray.size) := hid (show (Tryz.prog.info? 249).map (·.size) = some 20 by kernel_rfl)
  have ho : Hid (tabS.toArray.all (·.oneCell') = true) := hid (by kernel_rfl)
  go_enter Tryz.func138, Tryz.ntmps138
  go_wp2_with fail
  refine (stmtKinds_any _).mono ?_
  rintro e W1 ⟨rfl, hb1⟩
  generalize w.alloc _ = W0 at *
  have X1 := hid (X0.out.later hb1)
  have B1 := hid (B0.out.trans (hb1.mono B0.out.size))
  clear hb1
  go_wp2_with (with_reducible refine wpList_store_row (o := ⟨none, _, _, _, _, _⟩) rfl _ _ _ rfl W1.heap.size tabS.toArray rfl ?r1 _ _ (heap_alloc_new _ _) hz.out ?r2 ho.out ?_)
  case r1 => rfl
  case r2 => rfl
  generalize hW2 : (World.alloc W1 _).setRow _ _ = W2
  have hb2 : Below W1.heap.size W1 W2 := by rw [← hW2]; exact rowed_below' _ _ _
  have hX2 : BoxAt W2 W1.heap.size tabS := by rw [← hW2]; exact rowed_box' _ _ _ _
  have X2 := hid (X1.out.later hb2)
  have B2 := hid (B1.out.trans (hb2.mono B1.out.size))
  have XT := hid hX2
  clear hW2 hb2 hX2
  have d0 := box_get X2.out HY.out.1
  have hlt0 : w.heap.size < W2.heap.size := World.block_lt_of_cell? _ _ d0
  have hlt1 : w.heap.size ≠ W2.heap.size := by omega
  simp only [Act.put]
  have CA : Hid (∀ W, Below W2.heap.size W2 W → Calls Tryz.prog 183 #[.slice (some ⟨W1.heap.size, 0, none⟩) 5 5, .int .i64 (k : Int)] W fun r w' => r = .returned (.tuple #[.agg #[fnV g0, fnV g1, fnV g2, fnV g3], .bool true]) ∧ Below W.heap.size W w') :=
    hid fun W hb => by have := atS_yes W W1.heap.size k (XT.out.later hb) hk1 hk2; rw [HEnt.out] at this; exact this
  go_cut [4, 5] (fun u v wx => ∃ m : Nat, u = .pointer (some ⟨m, 0, none⟩) ∧ v = .bool true ∧ Hid (BoxAt wx m [fnV g0, fnV g1, fnV g2, fnV g3] ∧ Below W2.heap.size W2 wx))
  case first =>
    clear H0 H1 H2 H3 HE en0 en1 en2 en3 XT
    go_region_with (go_at_call 183; refine (CA.out _ ?_).mono ?_; rotate_left; rintro e W3 ⟨rfl, hb3⟩; obtain ⟨hc3, hf3⟩ := bcell hb3; rotate_left; (first | exact (Below.refl _ _).drew | exact ((Below.refl _ _).drew).alloc (Nat.le_refl _) _ | exact ((Below.refl _ _).alloc (Nat.le_refl _) _).drew))
    all_goals go_wp2_with fail
    all_goals simp only [Act.put, List.getElem_toArray, List.getElem_cons_succ, List.getElem_cons_zero, List.setIfInBounds_toArray, List.set_cons_zero, List.set_cons_succ]
    all_goals go_meet
    · have e := laid_behind (W2 := W2) [fnV g0, fnV g1, fnV g2, fnV g3] 248 ⟨hb3.os, hb3.tape, hb3.output, hb3.size, hb3.block⟩
      exact ⟨_, rfl, rfl, hid e⟩
    · have e := laid_ahead (W2 := W2) (entS 0) [fnV g0, fnV g1, fnV g2, fnV g3] 248 rfl ⟨hb3.os, hb3.tape, hb3.output, hb3.size, hb3.block⟩
      exact ⟨_, rfl, rfl, hid e⟩
    · have e := laid_ahead (W2 := W2) (entS 0) [fnV g0, fnV g1, fnV g2, fnV g3] 248 rfl ⟨hb3.os, hb3.tape, hb3.output, hb3.size, hb3.block⟩
      exact ⟨_, rfl, rfl, hid e⟩
  case rest =>
    obtain ⟨m, rfl, rfl, hB⟩ := hcut
    have XE3 := hid hB.out.1
    have B3 := hid (B2.out.trans (hB.out.2.mono B2.out.size))
    have X3 := hid (X2.out.later hB.out.2)
    clear hB d0 hlt0 hlt1 CA XT
    have d1 := box_get X3.out HY.out.2.1
    have a0 := box_get XE3.out (j := 0) rfl
    go_wp2_with fail
    with_reducible refine (H0.out _ B3.out).mono ?_
    rintro e W4 ⟨rfl, hb4⟩
    have B4 := hid (B3.out.trans (hb4.mono B3.out.size))
    have X4 := hid (X3.out.later hb4)
    have XE4 := hid (XE3.out.later hb4)
    clear d1 a0 hb4
    cases b0
    · go_wp2_with fail
      go_ret
      exact ⟨ret_bool (by rw [← HS.out]; simp), B4.out⟩
    have d1 := trivial
    have a0 := box_get XE4.out (j := 1) rfl
    go_wp2_with (with_reducible refine wpList_load_at (o := ⟨some 26, _, _, _, _, _⟩) rfl _ _ rfl w.heap.size 2 rfl pc _ (fun j u h => box_get X4.out (HY.out.2.2.2.2.1 j u h)) Tryz.underlying51 rfl HSp.out ?_)
    with_reducible refine (H1.out _ B4.out).mono ?_
    rintro e W5 ⟨rfl, hb5⟩
    have B5 := hid (B4.out.trans (hb5.mono B4.out.size))
    have X5 := hid (X4.out.later hb5)
    have XE5 := hid (XE4.out.later hb5)
    clear d1 a0 hb5
    cases b1
    · go_wp2_with fail
      go_ret
      exact ⟨ret_bool (by rw [← HS.out]; simp), B5.out⟩
    have d1 := trivial
    have a0 := trivial
    go_wp2_with (with_reducible refine wpList_load_at (o := ⟨some 31, _, _, _, _, _⟩) rfl _ _ rfl w.heap.size 7 rfl ec _ (fun j u h => box_get X5.out (HY.out.2.2.2.2.2 j u h)) Tryz.underlying51 rfl HSe.out ?_)
    with_reducible refine (HE.out _ B5.out).mono ?_
    rintro e W6 ⟨rfl, hb6⟩
    have B6 := hid (B5.out.trans (hb6.mono B5.out.size))
    have X6 := hid (X5.out.later hb6)
    have XE6 := hid (XE5.out.later hb6)
    clear d1 a0 hb6
    cases bE
    · go_wp2_with fail
      go_ret
      exact ⟨ret_bool (by rw [← HS.out]; simp), B6.out⟩
    have d1 := box_get X6.out HY.out.2.2.1
    have a0 := box_get XE6.out (j := 2) rfl
    go_wp2_with fail
    with_reducible refine (H2.out _ B6.out).mono ?_
    rintro e W7 ⟨rfl, hb7⟩
    have B7 := hid (B6.out.trans (hb7.mono B6.out.size))
    have X7 := hid (X6.out.later hb7)
    have XE7 := hid (XE6.out.later hb7)
    clear d1 a0 hb7
    cases b2
    · go_wp2_with fail
      go_ret
      exact ⟨ret_bool (by rw [← HS.out]; simp), B7.out⟩
    have d1 := box_get X7.out HY.out.2.2.2.1
    have a0 := box_get XE7.out (j := 3) rfl
    go_wp2_with fail
    with_reducible refine (H3.out _ B7.out).mono ?_
    rintro e W8 ⟨rfl, hb8⟩
    go_wp2_with fail
    go_ret
    exact ⟨ret_bool (by rw [← HS.out]; simp), B7.out.trans (hb8.mono B7.out.size)⟩
end Go.Proofs.YtjkdcladjjpmoaaGreatDoor.TreeC
/- Contracts of tree.rightStmt and tree.rightStmts. -/
namespace Go.Proofs.YtjkdcladjjpmoaaGreatDoor.TreeC
open Go Go.RowKit Go.Lib Go.Sort Go.Proofs.YtjkdcladjjpmoaaGreatDoor.LexP Go.Proofs.YtjkdcladjjpmoaaGreatDoor.TreeP Go.Proofs.YtjkdcladjjpmoaaGreatDoor.LexC

theorem enSt : Enters 138 := enters_of Tryz.func138 (by kernel_rfl) rfl
theorem enSs : Enters 80 := enters_of Tryz.func80 (by kernel_rfl) rfl
theorem enNE : Enters 214 := enters_of Tryz.func214 (by kernel_rfl) rfl
theorem enNS : Enters 215 := enters_of Tryz.func215 (by kernel_rfl) rfl

theorem Ex.cells_len (e : Ex) : e.cells.length = 5 := by obtain ⟨k, n, l, m, v, ks⟩ := e; rfl
theorem Ones.app {a b : List Value} (h : Ones a) (k : Ones b) : Ones (a ++ b) := by
  unfold Ones at *
  rw [List.all_toArray] at *
  rw [List.all_append, h, k]; rfl
theorem st_ones {w : World} {s : St} (h : s.In w) : Ones s.cells := by
  obtain ⟨k, name, p, e, tv, thn, ev, els⟩ := s
  rw [St.In] at h
  obtain ⟨tp, tc, rfl, _⟩ := h.2.2.1
  obtain ⟨ep, ec, rfl, _⟩ := h.2.2.2.2.1
  unfold St.cells
  refine Ones.app (Ones.app (Ones.app ?_ (ex_ones h.1)) (ex_ones h.2.1)) ?_
  · unfold Ones; simp [Value.oneCell']
  · unfold Ones; simp [Value.oneCell']

set_option maxHeartbeats 2000000 in
theorem rightSs_of (v : Value) (w : World) (b : Bool) (H : Answers w 137 #[v, .func (.func 138) #[] #[]] b) : Calls Tryz.prog 80 #[v] w fun r w' => r = .returned (.bool b) ∧ Below w.heap.size w w' := by
  unfold Answers at H
  have H1 := hid H
  clear H
  go_enter Tryz.func80, Tryz.ntmps80
  go_wp2_with fail
  with_reducible refine (H1.out _ (Below.refl _ _)).mono ?_
  rintro e W1 ⟨rfl, hb1⟩
  go_wp2_with fail
  go_ret
  exact ⟨rfl, hb1⟩

set_option maxHeartbeats 8000000 in
set_option maxRecDepth 100000 in
theorem rightS_no (w : World) (k : Int) (cs : List Value) (hk : k < 1 ∨ 5 ≤ k) (hy : cs[0]? = some (.int .i64 k)) :
    Calls Tryz.prog 138 #[.agg cs.toArray] w fun r w' => r = .returned (.bool false) ∧ Below w.heap.size w w' := by
  have HY := hid hy
  clear hy
  have X0 := hid (BoxAt.new w cs 111)
  have B0 : Hid (Below w.heap.size w (w.alloc (.cells cs.toArray 111 (0, 0)))) := hid ((Below.refl _ _).alloc (Nat.le_refl _) _)
  have hz : Hid ((Tryz.prog.info? 249).map (·.size) = some tabS.toArray.size) := hid (show (Tryz.prog.info? 249).map (·.size) = some 20 by kernel_rfl)
  have ho : Hid (tabS.toArray.all (·.oneCell') = true) := hid (by kernel_rfl)
  go_enter Tryz.func138, Tryz.ntmps138
  go_wp2_with fail
  refine (stmtKinds_any _).mono ?_
  rintro e W1 ⟨rfl, hb1⟩
  generalize w.alloc _ = W0 at *
  have X1 := hid (X0.out.later hb1)
  have B1 := hid (B0.out.trans (hb1.mono B0.out.size))
  clear hb1
  go_wp2_with (with_reducible refine wpList_store_row (o := ⟨none, _, _, _, _, _⟩) rfl _ _ _ rfl W1.heap.size tabS.toArray rfl ?r1 _ _ (heap_alloc_new _ _) hz.out ?r2 ho.out ?_)
  case r1 => rfl
  case r2 => rfl
  generalize hW2 : (World.alloc W1 _).setRow _ _ = W2
  have hb2 : Below W1.heap.size W1 W2 := by rw [← hW2]; exact rowed_below' _ _ _
  have X2 := hid (X1.out.later hb2)
  have B2 := hid (B1.out.trans (hb2.mono B1.out.size))
  clear hW2 hb2
  have d0 := box_get X2.out HY.out
  have hlt0 : w.heap.size < W2.heap.size := World.block_lt_of_cell? _ _ d0
  have hlt1 : w.heap.size ≠ W2.heap.size := by omega
  simp only [Act.put]
  have CA : Hid (∀ W, Below W2.heap.size W2 W → Calls Tryz.prog 183 #[.slice (some ⟨W1.heap.size, 0, none⟩) 5 5, .int .i64 k] W fun r w' => r = .returned (.tuple #[.agg #[.nilFunc, .nilFunc, .nilFunc, .nilFunc], .bool false]) ∧ Below W.heap.size W w') :=
    hid fun W hb => atS_no W W1.heap.size k hk
  go_cut [4, 5] (fun u v wx => ∃ m : Nat, u = .pointer (some ⟨m, 0, none⟩) ∧ v = .bool false ∧ Hid (BoxAt wx m (entS 0) ∧ Below W2.heap.size W2 wx))
  case first =>
    go_region_with (go_at_call 183; refine (CA.out _ ?_).mono ?_; rotate_left; rintro e W3 ⟨rfl, hb3⟩; obtain ⟨hc3, hf3⟩ := bcell hb3; rotate_left; (first | exact (Below.refl _ _).drew | exact ((Below.refl _ _).drew).alloc (Nat.le_refl _) _ | exact ((Below.refl _ _).alloc (Nat.le_refl _) _).drew))
    all_goals go_wp2_with fail
    all_goals simp only [Act.put, List.getElem_toArray, List.getElem_cons_succ, List.getElem_cons_zero, List.setIfInBounds_toArray, List.set_cons_zero, List.set_cons_succ]
    all_goals go_meet
    · have e := laid_behind (W2 := W2) (entS 0) 248 ⟨hb3.os, hb3.tape, hb3.output, hb3.size, hb3.block⟩
      exact ⟨_, rfl, rfl, hid e⟩
    · have e := laid_ahead (W2 := W2) (entS 0) (entS 0) 248 rfl ⟨hb3.os, hb3.tape, hb3.output, hb3.size, hb3.block⟩
      exact ⟨_, rfl, rfl, hid e⟩
    · have e := laid_ahead (W2 := W2) (entS 0) (entS 0) 248 rfl ⟨hb3.os, hb3.tape, hb3.output, hb3.size, hb3.block⟩
      exact ⟨_, rfl, rfl, hid e⟩
  case rest =>
    obtain ⟨m, rfl, rfl, hB⟩ := hcut
    have B3 := hid (B2.out.trans (hB.out.2.mono B2.out.size))
    clear hB d0 hlt0 hlt1 CA
    go_wp2_with fail
    go_ret
    exact ⟨rfl, B3.out⟩

theorem eq_s (a b e T E t x : Bool) : (a && b && e && (T && t) && (E && x)) = (e && (T && t) && (E && x) && (a && b)) := by
  cases a <;> cases b <;> cases e <;> cases T <;> cases E <;> cases t <;> cases x <;> rfl
theorem eq_let (a b e : Bool) (l m : List St) : (a && b && e && (l.length == 0) && (m.length == 0)) = (e && (rightSs l && decide (l.length ≤ 30)) && (rightSs m && decide (m.length ≤ 30)) && (a && b && l.length + m.length == 0)) := by
  cases l with
  | cons x l => simp
  | nil =>
    cases m with
    | cons x m => simp
    | nil => cases a <;> cases b <;> cases e <;> rfl
theorem eq_rep (a b e : Bool) (l m : List St) : (a && b && e && (rightSs l && decide (l.length ≤ 30)) && (m.length == 0)) = (e && (rightSs l && decide (l.length ≤ 30)) && (rightSs m && decide (m.length ≤ 30)) && (a && b && m.length == 0)) := by
  cases m with
  | cons x m => simp
  | nil => generalize (rightSs l && decide (l.length ≤ 30)) = q; cases a <;> cases b <;> cases e <;> cases q <;> rfl

set_option maxHeartbeats 4000000 in
theorem rightS_any : ∀ (n : Nat) (t : St) (w : World), wS t ≤ n → n ≤ 1048576 → t.In w → Tabs w → Calls Tryz.prog 138 #[t.val] w fun r w' => r = .returned (.bool (rightS t)) ∧ Below w.heap.size w w' := by
  intro n
  induction n with
  | zero => intro t w h; obtain ⟨k, name, place, expr, tv, thn, ev, els⟩ := t; rw [wS] at h; omega
  | succ n ih =>
    intro t w hw hn hin T
    have hones := st_ones hin
    obtain ⟨k, name, place, expr, tv, thn, ev, els⟩ := t
    rw [wS] at hw
    rw [St.In] at hin
    obtain ⟨hp, he, htl, hts, hel, hes⟩ := hin
    have hlT := wSs_len thn
    have hlE := wSs_len els
    have every : ∀ (v : Value) (l : List St), wSs l ≤ n → Lies w 14 v (l.map St.cells) → St.Ins w l → Answers w 80 #[v] (l.all rightS && decide (l.length ≤ 30)) := fun v l hwl hl hs W hb =>
      rightSs_of v W _ fun W2 hb2 => every_stSize 138 rightS enSt W2 v l (hl.keep (Keeps.of_below (hb.trans (hb2.mono hb.size)))) (by have := wSs_len l; omega) (fun x hx => st_ones ((St.ins_iff w l).1 hs x hx)) (fun x hx W3 hb3 => by
        obtain ⟨i, hi, e⟩ := List.mem_iff_getElem.1 hx
        have := wSs_get l i x (by rw [List.getElem?_eq_getElem hi, e])
        have hb' := (hb.trans (hb2.mono hb.size)).trans (hb3.mono (hb.trans (hb2.mono hb.size)).size)
        exact ih x W3 (by omega) (by omega) (St.In.keep (Keeps.of_below hb') x ((St.ins_iff w l).1 hs x hx)) (T.below hb'))
    have cT := every tv thn (by omega) htl hts
    have cE := every ev els (by omega) hel hes
    rw [← rightSs_all] at cT cE
    have cX : Answers w 82 #[.agg expr.cells.toArray] (rightE expr) := fun W hb => rightE_any (wE expr) expr W (Nat.le_refl _) (by omega) (he.keep (Keeps.of_below hb)) (T.below hb)
    have cP : Answers w 187 #[.agg place.cells.toArray] (place.place && rightE place) := fun W hb => rightPlace_of place W fun W2 hb2 => rightE_any (wE place) place W2 (Nat.le_refl _) (by omega) (hp.keep (Keeps.of_below (hb.trans (hb2.mono hb.size)))) (T.below (hb.trans (hb2.mono hb.size)))
    have cN : Answers w 214 #[.agg place.cells.toArray] place.none := fun W hb => noExpr_any place W (hp.keep (Keeps.of_below hb)) (by omega)
    have cS0 : Answers w 179 #[.string name] _ := Answers.of_same fun W => noneS_any name W
    have cNa : Answers w 75 #[.string name] (nameB (bs name)) := fun W hb => isName_any name W (by omega) (T.below hb)
    obtain ⟨tp, tc, rfl, _, _⟩ := id htl
    obtain ⟨ep, ec, rfl, _, _⟩ := id hel
    rw [List.length_map, List.length_map] at *
    have cT0 : Answers w 215 #[.slice tp thn.length tc] _ := Answers.of_same fun W => noStmts_any tp thn.length tc W (by omega)
    have cE0 : Answers w 215 #[.slice ep els.length ec] _ := Answers.of_same fun W => noStmts_any ep els.length ec W (by omega)
    rw [rightS]
    by_cases hk5 : k < 1 ∨ 5 ≤ k
    · have h := rightS_no w k (St.mk k name place expr (.slice tp thn.length tc) thn (.slice ep els.length ec) els).cells hk5 rfl
      have e : (rightE expr && (rightSs thn && decide (thn.length ≤ 30)) && (rightSs els && decide (els.length ≤ 30)) && askS k (bs name) place thn.length els.length) = false := by
        unfold askS
        rw [if_neg (by omega), if_neg (by omega), if_neg (by omega), if_neg (by omega), Bool.and_false]
      rw [e]
      exact h
    · obtain ⟨m, rfl⟩ : ∃ m : Nat, k = (m : Int) := ⟨k.toNat, by omega⟩
      have hy : ∀ m : Nat, let cs := (St.mk (m : Int) name place expr (.slice tp thn.length tc) thn (.slice ep els.length ec) els).cells
          cs[0]? = some (.int .i64 (m : Int)) ∧ cs[1]? = some (.string name) ∧ cs[12]? = some (.slice tp thn.length tc) ∧ cs[13]? = some (.slice ep els.length ec) ∧ (∀ j u, place.cells[j]? = some u → cs[2 + j]? = some u) ∧ (∀ j u, expr.cells[j]? = some u → cs[7 + j]? = some u) :=
        fun m => ⟨rfl, rfl, St.cells_tv .., St.cells_ev .., fun j u h => St.cells_place h, fun j u h => St.cells_expr h⟩
      have go : ∀ {b c : Bool}, b = c → (Calls Tryz.prog 138 #[(St.mk (m : Int) name place expr (.slice tp thn.length tc) thn (.slice ep els.length ec) els).val] w fun r w' => r = .returned (.bool b) ∧ Below w.heap.size w w') → (Calls Tryz.prog 138 #[(St.mk (m : Int) name place expr (.slice tp thn.length tc) thn (.slice ep els.length ec) els).val] w fun r w' => r = .returned (.bool c) ∧ Below w.heap.size w w') := fun e h => e ▸ h
      rcases (show m = 1 ∨ m = 2 ∨ m = 3 ∨ m = 4 by omega) with rfl | rfl | rfl | rfl
      · refine go ?_ (rightS_gen w 1 _ place.cells expr.cells name tp ep thn.length tc els.length ec _ _ _ _ _ _ _ _ _ (by omega) (by omega) (by omega) (by omega) (hy 1) (Ex.cells_len _) (Ex.cells_len _) rfl enNa enNE enNS enNS cNa cN cX cT0 cE0)
        exact eq_let _ _ _ thn els
      · refine go ?_ (rightS_gen w 2 _ place.cells expr.cells name tp ep thn.length tc els.length ec _ _ _ _ _ _ _ _ _ (by omega) (by omega) (by omega) (by omega) (hy 2) (Ex.cells_len _) (Ex.cells_len _) rfl enS0 enP enNS enNS cS0 cP cX cT0 cE0)
        refine (eq_let _ _ _ thn els).trans ?_
        rw [← Bool.and_assoc (bs name).isEmpty]; rfl
      · refine go ?_ (rightS_gen w 3 _ place.cells expr.cells name tp ep thn.length tc els.length ec _ _ _ _ _ _ _ _ _ (by omega) (by omega) (by omega) (by omega) (hy 3) (Ex.cells_len _) (Ex.cells_len _) rfl enS0 enNE enSs enSs cS0 cN cX cT cE)
        exact eq_s _ _ _ _ _ _ _
      · refine go ?_ (rightS_gen w 4 _ place.cells expr.cells name tp ep thn.length tc els.length ec _ _ _ _ _ _ _ _ _ (by omega) (by omega) (by omega) (by omega) (hy 4) (Ex.cells_len _) (Ex.cells_len _) rfl enS0 enNE enSs enNS cS0 cN cX cT cE0)
        exact eq_rep _ _ _ thn els
theorem rightSs_any (v : Value) (l : List St) (w : World) (hw : wSs l ≤ 1048576) (hl : Lies w 14 v (l.map St.cells)) (hs : St.Ins w l) (T : Tabs w) : Calls Tryz.prog 80 #[v] w fun r w' => r = .returned (.bool (rightL l)) ∧ Below w.heap.size w w' := by
  unfold rightL
  rw [rightSs_all]
  exact rightSs_of v w _ fun W hb => every_stSize 138 rightS enSt W v l (hl.keep (Keeps.of_below hb)) (by have := wSs_len l; omega) (fun x hx => st_ones ((St.ins_iff w l).1 hs x hx)) (fun x hx W3 hb3 => by
        obtain ⟨i, hi, e⟩ := List.mem_iff_getElem.1 hx
        have := wSs_get l i x (by rw [List.getElem?_eq_getElem hi, e])
        have hb' := hb.trans (hb3.mono hb.size)
        exact rightS_any (wS x) x W3 (Nat.le_refl _) (by omega) (St.In.keep (Keeps.of_below hb') x ((St.ins_iff w l).1 hs x hx)) (T.below hb'))
end Go.Proofs.YtjkdcladjjpmoaaGreatDoor.TreeC
/- Contracts of tree.strength, tree.inOperParens, tree.inParens. -/
namespace Go.Proofs.YtjkdcladjjpmoaaGreatDoor.TreeC
open Go Go.RowKit Go.Lib Go.Sort Go.Proofs.YtjkdcladjjpmoaaGreatDoor.LexP Go.Proofs.YtjkdcladjjpmoaaGreatDoor.TreeP Go.Proofs.YtjkdcladjjpmoaaGreatDoor.LexC

/-- does the i-th kid, of strength t, of an operation of strength s stand in parentheses? -/
def operParens (s t i : Nat) : Bool := if 1 < i then false else if s = 1 then t == 1 else if i = 0 then decide (t < s) else decide (t ≤ s)
def parensB (k : Int) (s : Nat) (kid : Ex) (i : Nat) : Bool := if k = 3 then kid.kind == 4 else if k = 6 then kid.kind == 8 else if k = 8 then operParens s kid.str i else false
theorem operParens_aside (s t i : Nat) (hi : i < 2) : operParens s t i = asideB s t i := by
  unfold operParens asideB
  rw [if_neg (by omega)]
  by_cases hs : s = 1
  · rw [if_pos hs, if_pos hs]
  · rw [if_neg hs, if_neg hs]
    rcases (show i = 0 ∨ i = 1 by omega) with rfl | rfl
    · simp
    · rw [if_neg (by omega), Bool.eq_iff_iff]; simp; omega

set_option maxHeartbeats 1000000 in
theorem strength_any (e : Ex) (w : World) : Calls Tryz.prog 213 #[e.val] w fun r w' => r = .returned (.int .i64 (e.str : Int)) ∧ Below w.heap.size w w' := by
  obtain ⟨k, num, name, mt, v, kids⟩ := e
  have ho := str_of k name
  simp only [Ex.val_mk, Ex.str, Ex.kind, Ex.name]
  obtain ⟨S, hS⟩ : ∃ S, strK k (bs name) = S := ⟨_, rfl⟩
  rw [hS] at ho ⊢
  clear hS
  cases a0 : (k == 8)
  · have H := ho 4 (by rw [a0]; rfl)
    clear ho
    subst H
    have hk : ¬ k = 8 := by simpa using a0
    go_enter Tryz.func213, Tryz.ntmps213
    go_wp2
    go_ret
    exact ⟨rfl, (Below.refl _ _).alloc (Nat.le_refl _) _⟩
  rw [beq_iff_eq] at a0
  subst a0
  cases a1 : (name.toList == [60])
  case true =>
    have H := ho 1 (by rw [a1]; rfl)
    clear ho
    subst H
    go_enter Tryz.func213, Tryz.ntmps213
    go_wp2
    go_ret
    exact ⟨rfl, (Below.refl _ _).alloc (Nat.le_refl _) _⟩
  cases a2 : (name.toList == [61, 61])
  case true =>
    have H := ho 1 (by rw [a2, a1]; rfl)
    clear ho
    subst H
    go_enter Tryz.func213, Tryz.ntmps213
    go_wp2
    go_ret
    exact ⟨rfl, (Below.refl _ _).alloc (Nat.le_refl _) _⟩
  cases a3 : (name.toList == [43])
  case true =>
    have H := ho 2 (by rw [a3, a1, a2]; rfl)
    clear ho
    subst H
    go_enter Tryz.func213, Tryz.ntmps213
    go_wp2
    go_ret
    exact ⟨rfl, (Below.refl _ _).alloc (Nat.le_refl _) _⟩
  cases a4 : (name.toList == [45])
  case true =>
    have H := ho 2 (by rw [a4, a1, a2, a3]; rfl)
    clear ho
    subst H
    go_enter Tryz.func213, Tryz.ntmps213
    go_wp2
    go_ret
    exact ⟨rfl, (Below.refl _ _).alloc (Nat.le_refl _) _⟩
  cases a5 : (name.toList == [42])
  case true =>
    have H := ho 3 (by rw [a5, a1, a2, a3, a4]; rfl)
    clear ho
    subst H
    go_enter Tryz.func213, Tryz.ntmps213
    go_wp2
    go_ret
    exact ⟨rfl, (Below.refl _ _).alloc (Nat.le_refl _) _⟩
  cases a6 : (name.toList == [47])
  case true =>
    have H := ho 3 (by rw [a6, a1, a2, a3, a4, a5]; rfl)
    clear ho
    subst H
    go_enter Tryz.func213, Tryz.ntmps213
    go_wp2
    go_ret
    exact ⟨rfl, (Below.refl _ _).alloc (Nat.le_refl _) _⟩
  case false =>
    have H := ho 4 (by rw [a1, a2, a3, a4, a5, a6]; rfl)
    clear ho
    subst H
    go_enter Tryz.func213, Tryz.ntmps213
    go_wp2
    go_ret
    exact ⟨rfl, (Below.refl _ _).alloc (Nat.le_refl _) _⟩

set_option maxHeartbeats 1000000 in
theorem inOperParens_any (s t i : Nat) (w : World) : Calls Tryz.prog 212 #[.int .i64 (s : Int), .int .i64 (t : Int), .int .i64 (i : Int)] w fun r w' => r = .returned (.bool (operParens s t i)) ∧ w = w' := by
  obtain ⟨R, hR⟩ : ∃ R, operParens s t i = R := ⟨_, rfl⟩
  rw [hR]
  have HR := hid hR
  clear hR
  by_cases h1 : 1 < i
  · go_enter Tryz.func212, Tryz.ntmps212
    go_wp2
    go_ret
    exact ⟨ret_bool (by rw [← HR.out]; unfold operParens; rw [if_pos h1]), rfl⟩
  by_cases hs : s = 1
  · subst hs
    go_enter Tryz.func212, Tryz.ntmps212
    go_wp2
    go_ret
    exact ⟨ret_bool (by rw [← HR.out]; unfold operParens; rw [if_neg h1, if_pos rfl, Bool.eq_iff_iff]; simp; omega), rfl⟩
  have hs1 : ((s : Int) == 1) = false := by simp; omega
  by_cases h0 : i = 0
  · subst h0
    go_enter Tryz.func212, Tryz.ntmps212
    go_wp2
    go_ret
    exact ⟨ret_bool (by rw [← HR.out]; unfold operParens; rw [if_neg h1, if_neg hs, if_pos rfl, Bool.eq_iff_iff] <;> simp), rfl⟩
  · have h00 : ((i : Int) == 0) = false := by simp; omega
    go_enter Tryz.func212, Tryz.ntmps212
    go_wp2
    go_ret
    exact ⟨ret_bool (by rw [← HR.out]; unfold operParens; rw [if_neg h1, if_neg hs, if_neg h0, Bool.eq_iff_iff] <;> simp), rfl⟩

set_option maxHeartbeats 4000000 in
set_option maxRecDepth 100000 in
theorem inParens_any (e t : Ex) (j : Nat) (w : World) (hin : e.In w) (ht : e.kids[j]? = some t) (hlen : e.kids.length ≤ 1048576) :
    Calls Tryz.prog 178 #[e.val, .int .i64 (j : Int)] w fun r w' => r = .returned (.bool (parensB e.kind e.str t j)) ∧ Below w.heap.size w w' := by
  have hj : j < e.kids.length := (List.getElem?_eq_some_iff.1 ht).1
  have ce := fun W => strength_any e W
  have ct := fun W => strength_any t W
  have ez := exSize e
  have tz := exSize t
  obtain ⟨k, num, name, mt, v, kids⟩ := e
  rw [Ex.In] at hin
  obtain ⟨_, hl, hks⟩ := hin
  have hon := ex_ones ((Ex.ins_iff w kids).1 hks t (List.mem_of_getElem? ht))
  unfold Ones at hon
  obtain ⟨b, off, cap, rfl, hcap, hx⟩ := hl.at (i := j) (by rw [List.length_map]; exact hj)
  rw [List.length_map] at *
  have hx' : ∀ (i : Nat) (u : Value), t.cells[i]? = some u → w.cell? ⟨b, off + j * 5 + i, none⟩ = some u := hx j t.cells (by rw [List.getElem?_map]; rw [show kids[j]? = some t from ht]; rfl)
  obtain ⟨R, hR⟩ : ∃ R, parensB k (Ex.mk k num name mt (.slice (some ⟨b, off, none⟩) kids.length cap) kids).str t j = R := ⟨_, rfl⟩
  rw [show (Ex.mk k num name mt (.slice (some ⟨b, off, none⟩) kids.length cap) kids).kind = k from rfl, hR]
  unfold parensB at hR
  rw [show Ex.kids (.mk k num name mt (.slice (some ⟨b, off, none⟩) kids.length cap) kids) = kids from rfl] at *
  have y0 : (Ex.mk k num name mt (.slice (some ⟨b, off, none⟩) kids.length cap) kids).cells[0]? = some (.int .i64 k) := rfl
  have y4 : (Ex.mk k num name mt (.slice (some ⟨b, off, none⟩) kids.length cap) kids).cells[4]? = some (.slice (some ⟨b, off, none⟩) kids.length cap) := rfl
  have t0 : t.cells[0]? = some (.int .i64 t.kind) := by obtain ⟨k', n', l', m', v', ks'⟩ := t; rfl
  unfold Ex.val at ce ct ⊢
  generalize (Ex.mk k num name mt (.slice (some ⟨b, off, none⟩) kids.length cap) kids).str = s at *
  generalize (Ex.mk k num name mt (.slice (some ⟨b, off, none⟩) kids.length cap) kids).cells = cs at *
  generalize t.str = u at *
  generalize t.kind = tk at *
  generalize hct : t.cells = ts at *
  clear hct ht hx hl hks
  generalize kids.length = L at *
  have X0 := hid (BoxAt.new w cs 51)
  have B0 := hid (show Below w.heap.size w (w.alloc (.cells cs.toArray 51 (0, 0))) from (Below.refl _ _).alloc (Nat.le_refl _) _)
  have HT0 : Hid (∀ (i : Nat) (u : Value), ts[i]? = some u → (w.alloc (.cells cs.toArray 51 (0, 0))).cell? ⟨b, off + j * 5 + i, none⟩ = some u) := hid fun i u h => later B0.out (hx' i u h)
  have HS := hid hR
  have HY := hid (And.intro y0 (And.intro y4 t0))
  have CE := hid ce
  have CT := hid ct
  have EZ := hid ez
  have TZ := hid tz
  have HON := hid hon
  have ZA : Hid ((Tryz.prog.info? 51).map (·.size) = some ts.toArray.size) := hid (by rw [List.size_toArray]; exact tz)
  have ZO : Hid ((#[.int .i64 0, .int .i64 0, .string ⟨#[]⟩, .bool false, .slice none 0 0] : Array Value).size = ts.toArray.size) := hid (by
    rw [show (Tryz.prog.info? 51).map (·.size) = some 5 by kernel_rfl] at tz
    exact Option.some.inj tz)
  clear hx' hR ce ct ez tz y0 y4 t0 hon
  have d4 := box_get X0.out HY.out.2.1
  have hb2 : Below (w.alloc (.cells cs.toArray 51 (0, 0))).heap.size (w.alloc (.cells cs.toArray 51 (0, 0))) (((w.alloc (.cells cs.toArray 51 (0, 0))).alloc (.cells #[.int .i64 0, .int .i64 0, .string ⟨#[]⟩, .bool false, .slice none 0 0] 51 (0, 0))).setRow (w.alloc (.cells cs.toArray 51 (0, 0))).heap.size ts.toArray) := rowed_below' _ _ _
  have hX2 : BoxAt (((w.alloc (.cells cs.toArray 51 (0, 0))).alloc (.cells #[.int .i64 0, .int .i64 0, .string ⟨#[]⟩, .bool false, .slice none 0 0] 51 (0, 0))).setRow (w.alloc (.cells cs.toArray 51 (0, 0))).heap.size ts.toArray) (w.alloc (.cells cs.toArray 51 (0, 0))).heap.size ts := rowed_box' _ _ _ _
  have hsz : (w.alloc (.cells cs.toArray 51 (0, 0))).heap.size = w.heap.size + 1 := Array.size_push ..
  have hN := heap_alloc_new (w.alloc (.cells cs.toArray 51 (0, 0))) (.cells #[.int .i64 0, .int .i64 0, .string ⟨#[]⟩, .bool false, .slice none 0 0] 51 (0, 0))
  have xe2 := X0.out.later hb2
  have b2 := B0.out.trans (hb2.mono B0.out.size)
  rw [hsz] at hN xe2 b2 hX2
  have XE2 := hid xe2
  have B2 := hid b2
  have XT2 := hid hX2
  have HN := hid hN
  clear hsz xe2 b2 hN
  clear hb2 hX2
  have d0 := box_get XE2.out HY.out.1
  have t0 := box_get XT2.out HY.out.2.2
  by_cases k3 : k = 3
  · subst k3
    go_enter Tryz.func178, Tryz.ntmps178
    go_wp2_with (first | (with_reducible refine wpList_load_at (o := ⟨some 10, _, _, _, _, _⟩) rfl _ _ rfl b (off + j * 5) rfl ts _ HT0.out Tryz.underlying51 rfl TZ.out ?_) | (with_reducible refine wpList_store_row (o := ⟨none, _, _, _, _, _⟩) rfl _ _ _ rfl (w.heap.size + 1) ts.toArray rfl rfl _ _ HN.out ZA.out ZO.out HON.out ?_))
    go_ret
    exact ⟨ret_bool (by rw [← HS.out]; simp), B2.out⟩
  by_cases k6 : k = 6
  · subst k6
    go_enter Tryz.func178, Tryz.ntmps178
    go_wp2_with (first | (with_reducible refine wpList_load_at (o := ⟨some 10, _, _, _, _, _⟩) rfl _ _ rfl b (off + j * 5) rfl ts _ HT0.out Tryz.underlying51 rfl TZ.out ?_) | (with_reducible refine wpList_store_row (o := ⟨none, _, _, _, _, _⟩) rfl _ _ _ rfl (w.heap.size + 1) ts.toArray rfl rfl _ _ HN.out ZA.out ZO.out HON.out ?_))
    go_ret
    exact ⟨ret_bool (by rw [← HS.out]; simp), B2.out⟩
  by_cases k8 : k = 8
  · subst k8
    clear t0
    have CO := hid (fun W => inOperParens_any s u j W)
    go_enter Tryz.func178, Tryz.ntmps178
    go_wp2_with (first | (with_reducible refine wpList_load_at (o := ⟨some 10, _, _, _, _, _⟩) rfl _ _ rfl b (off + j * 5) rfl ts _ HT0.out Tryz.underlying51 rfl TZ.out ?_) | (with_reducible refine wpList_store_row (o := ⟨none, _, _, _, _, _⟩) rfl _ _ _ rfl (w.heap.size + 1) ts.toArray rfl rfl _ _ HN.out ZA.out ZO.out HON.out ?_))
    generalize World.setRow _ (w.heap.size + 1) ts.toArray = W2 at *
    try simp only [Act.put]
    have cE := hid (fun d os => Calls.regrown_of (CE.out (grow (redrawn W2 d) os)))
    have cT := hid (fun d os => Calls.regrown_of (CT.out (grow (redrawn W2 d) os)))
    have cO := hid (fun d os => Calls.regrown_of ((CO.out (grow (redrawn W2 d) os)).mono fun e w' ⟨h1, h2⟩ => ⟨h1, below_of_eq h2⟩))
    have P1 := hid (reg_cells (w := W2) (b := w.heap.size) (off := 0) (fun j u h => by rw [Nat.zero_add]; exact XE2.out j u h))
    have P2 := hid (reg_cells (w := W2) (b := w.heap.size + 1) (off := 0) (fun j u h => by rw [Nat.zero_add]; exact XT2.out j u h))
    clear CE CT CO XE2 XT2
    refine wp_region_quiet_below (by kernel_rfl) (by kernel_rfl) ?_
    repeat (first | ((with_reducible refine wpQuiet_load_at (o := ⟨some 25, _, _, _, _, _⟩) rfl _ _ rfl w.heap.size 0 rfl cs _ P1.out Tryz.underlying51 rfl EZ.out ?_); simp only [Act.put, List.setIfInBounds_toArray, List.set_cons_zero, List.set_cons_succ]) | ((with_reducible refine wpQuiet_load_at (o := ⟨some 27, _, _, _, _, _⟩) rfl _ _ rfl (w.heap.size + 1) 0 rfl ts _ P2.out Tryz.underlying51 rfl TZ.out ?_); simp only [Act.put, List.setIfInBounds_toArray, List.set_cons_zero, List.set_cons_succ]) | go_big_quiet_step (first | (with_reducible exact cE.out _ _) | (with_reducible exact cT.out _ _) | (with_reducible exact cO.out _ _)))
    refine wpQuiet_nil ?_
    intro _ hw'
    obtain ⟨⟨dq, osq⟩, hw''⟩ := hw'
    subst hw''
    go_wp2_with fail
    go_ret
    exact ⟨ret_bool (by rw [← HS.out]; simp), B2.out.trans ((below_regrown W2 dq osq).mono B2.out.size)⟩
  · go_enter Tryz.func178, Tryz.ntmps178
    go_wp2_with (first | (with_reducible refine wpList_load_at (o := ⟨some 10, _, _, _, _, _⟩) rfl _ _ rfl b (off + j * 5) rfl ts _ HT0.out Tryz.underlying51 rfl TZ.out ?_) | (with_reducible refine wpList_store_row (o := ⟨none, _, _, _, _, _⟩) rfl _ _ _ rfl (w.heap.size + 1) ts.toArray rfl rfl _ _ HN.out ZA.out ZO.out HON.out ?_))
    go_ret
    exact ⟨ret_bool (by rw [← HS.out, if_neg k3, if_neg k6, if_neg k8]), B2.out⟩
end Go.Proofs.YtjkdcladjjpmoaaGreatDoor.TreeC
/- Contract of tree.inType. -/
namespace Go.Proofs.YtjkdcladjjpmoaaGreatDoor.TreeC
open Go Go.RowKit Go.Lib Go.Sort Go.Proofs.YtjkdcladjjpmoaaGreatDoor.LexP Go.Proofs.YtjkdcladjjpmoaaGreatDoor.TreeP Go.Proofs.YtjkdcladjjpmoaaGreatDoor.LexC

/-- things that stand in a program at one level: the slice that holds them, and the things -/
structure Shelf (α : Type) where
  level : Nat
  v : Value
  list : List α
def Shelf.cells {α : Type} (s : Shelf α) : List Value := [.int .i64 (s.level : Int), s.v]
/-- what is in a type that stands at a level -/
def inT (t : Ty) (n : Nat) : List (Shelf Ty) := match t with
  | .mk k _ _ v kids => if k < 2 ∨ 4 < k then [] else [⟨n + 1, v, kids⟩]

theorem lies_none {w : World} {size : Nat} : Lies w size (.slice none 0 0) [] := ⟨none, 0, rfl, Nat.le_refl _, fun h => absurd rfl h⟩
theorem lies_one {w : World} {b : Nat} {cs : List Value} (h : BoxAt w b cs) : Lies w cs.length (.slice (some ⟨b, 0, none⟩) 1 1) [cs] :=
  ⟨some ⟨b, 0, none⟩, 1, rfl, Nat.le_refl _, fun _ => ⟨b, 0, rfl, fun i c hi j u hj => by
    match i, hi with
    | 0, hi =>
      rw [List.getElem?_cons_zero] at hi
      cases hi
      rw [Nat.zero_mul, Nat.zero_add]; try rw [Nat.zero_add]
      exact h j u hj
    | i + 1, hi => simp at hi⟩⟩

/-- a slice without an address is nil -/
def NilOk (v : Value) : Prop := ∀ n c, v = .slice none n c → n = 0 ∧ c = 0
def LiesN (w : World) (size : Nat) (v : Value) (xs : List (List Value)) : Prop := Lies w size v xs ∧ NilOk v
theorem liesN_none {w : World} {size : Nat} : LiesN w size (.slice none 0 0) [] := ⟨lies_none, fun n c h => by injection h with _ h1 h2; exact ⟨h1.symm, h2.symm⟩⟩
theorem liesN_one {w : World} {b : Nat} {cs : List Value} (h : BoxAt w b cs) : LiesN w cs.length (.slice (some ⟨b, 0, none⟩) 1 1) [cs] := ⟨lies_one h, fun n c h => by injection h with h0; cases h0⟩

set_option maxHeartbeats 2000000 in
theorem inType_any (t : Ty) (n : Nat) (w : World) (hn : n ≤ 4194304) (hin : t.In w) : Calls Tryz.prog 70 #[t.val, .int .i64 (n : Int)] w fun r w' => ∃ v, r = .returned v ∧ LiesN w' 2 v ((inT t n).map Shelf.cells) ∧ Below w.heap.size w w' := by
  obtain ⟨k, l, m, v, kids⟩ := t
  rw [Ty.In] at hin
  obtain ⟨p, cap, rfl, _⟩ := hin.1
  clear hin
  generalize (List.map Ty.cells kids).length = L
  rw [Ty.val_mk]
  have B0 := hid (show Below w.heap.size w (w.alloc (.cells #[.int .i64 k, .string l, .bool m, .slice p L cap] 45 (0, 0))) from (Below.refl _ _).alloc (Nat.le_refl _) _)
  by_cases hk : k < 2 ∨ 4 < k
  · rw [show inT (.mk k l m (.slice p L cap) kids) n = [] from if_pos hk]
    have h2 : (k == 2) = false := by simp; omega
    have h3 : (k == 3) = false := by simp; omega
    have h4 : (k == 4) = false := by simp; omega
    clear hk
    go_enter Tryz.func70, Tryz.ntmps70
    go_wp2_with fail
    go_ret
    exact ⟨_, rfl, liesN_none, B0.out⟩
  · rw [show inT (.mk k l m (.slice p L cap) kids) n = [⟨n + 1, .slice p L cap, kids⟩] from if_neg hk]
    rcases (show k = 2 ∨ k = 3 ∨ k = 4 by omega) with rfl | rfl | rfl
    · clear hk
      go_enter Tryz.func70, Tryz.ntmps70
      go_wp2_with fail
      go_ret
      have hB := BoxAt.new (w.alloc (.cells #[.int .i64 2, .string l, .bool m, .slice p L cap] 45 (0, 0))) [.int .i64 ((n : Int) + 1), .slice p L cap] 117
      rw [show (w.alloc (.cells #[.int .i64 2, .string l, .bool m, .slice p L cap] 45 (0, 0))).heap.size = w.heap.size + 1 from Array.size_push ..] at hB
      exact ⟨_, rfl, liesN_one hB, B0.out.alloc (by have := B0.out.size; omega) _⟩
    · clear hk
      go_enter Tryz.func70, Tryz.ntmps70
      go_wp2_with fail
      go_ret
      have hB := BoxAt.new (w.alloc (.cells #[.int .i64 3, .string l, .bool m, .slice p L cap] 45 (0, 0))) [.int .i64 ((n : Int) + 1), .slice p L cap] 117
      rw [show (w.alloc (.cells #[.int .i64 3, .string l, .bool m, .slice p L cap] 45 (0, 0))).heap.size = w.heap.size + 1 from Array.size_push ..] at hB
      exact ⟨_, rfl, liesN_one hB, B0.out.alloc (by have := B0.out.size; omega) _⟩
    · clear hk
      go_enter Tryz.func70, Tryz.ntmps70
      go_wp2_with fail
      go_ret
      have hB := BoxAt.new (w.alloc (.cells #[.int .i64 4, .string l, .bool m, .slice p L cap] 45 (0, 0))) [.int .i64 ((n : Int) + 1), .slice p L cap] 117
      rw [show (w.alloc (.cells #[.int .i64 4, .string l, .bool m, .slice p L cap] 45 (0, 0))).heap.size = w.heap.size + 1 from Array.size_push ..] at hB
      exact ⟨_, rfl, liesN_one hB, B0.out.alloc (by have := B0.out.size; omega) _⟩
end Go.Proofs.YtjkdcladjjpmoaaGreatDoor.TreeC
/- Contract of tree.inExpr, out of one of tree.inOper; what is in an expression, as plain shelves. -/
namespace Go.Proofs.YtjkdcladjjpmoaaGreatDoor.TreeC
open Go Go.RowKit Go.Lib Go.Sort Go.Proofs.YtjkdcladjjpmoaaGreatDoor.LexP Go.Proofs.YtjkdcladjjpmoaaGreatDoor.TreeP Go.Proofs.YtjkdcladjjpmoaaGreatDoor.LexC

/-- of a slice of expressions, the one at i, as a slice of its own -/
def oneOf (v : Value) (i : Nat) : Value := match v with
  | .slice (some a) _ cap => .slice (some ⟨a.block, a.off + i * 5, none⟩) 1 (cap - i)
  | _ => v
def operKids (s n : Nat) (v : Value) : Nat → List Ex → List (Shelf Ex)
  | _, [] => []
  | i, x :: xs => ⟨n + 1 + (if parensB 8 s x i = true then 1 else 0), oneOf v i, [x]⟩ :: operKids s n v (i + 1) xs
/-- what is in an expression that stands at a level -/
def inE (x : Ex) (n : Nat) : List (Shelf Ex) := match x with
  | .mk k _num name _m v kids => if k < 3 ∨ 9 < k then [] else if k = 8 then ⟨n + 1, .slice none 0 0, []⟩ :: operKids (strK 8 (bs name)) n v 0 kids else [⟨n + 1, v, kids⟩]

set_option maxHeartbeats 4000000 in
theorem inExpr_of (x : Ex) (n : Nat) (w : World) (hn : n ≤ 4194304) (hin : x.In w)
    (HO : x.kind = 8 → ∀ W, Below w.heap.size w W → Calls Tryz.prog 132 #[x.val, .int .i64 (n : Int)] W fun r w' => ∃ v, r = .returned v ∧ LiesN w' 2 v ((inE x n).map Shelf.cells) ∧ Below W.heap.size W w') :
    Calls Tryz.prog 74 #[x.val, .int .i64 (n : Int)] w fun r w' => ∃ v, r = .returned v ∧ LiesN w' 2 v ((inE x n).map Shelf.cells) ∧ Below w.heap.size w w' := by
  have hz := exSize x
  obtain ⟨k, num, l, m, v, kids⟩ := x
  rw [Ex.In] at hin
  obtain ⟨p, cap, rfl, _⟩ := hin.2.1
  clear hin
  generalize (List.map Ex.cells kids).length = L at *
  rw [Ex.val_mk] at *
  have B0 := hid (show Below w.heap.size w (w.alloc (.cells #[.int .i64 k, .int .i64 num, .string l, .bool m, .slice p L cap] 51 (0, 0))) from (Below.refl _ _).alloc (Nat.le_refl _) _)
  by_cases hk : k < 3 ∨ 9 < k
  · rw [show inE (.mk k num l m (.slice p L cap) kids) n = [] from if_pos hk]
    have h3 : (k == 3) = false := by simp; omega
    have h4 : (k == 4) = false := by simp; omega
    have h5 : (k == 5) = false := by simp; omega
    have h6 : (k == 6) = false := by simp; omega
    have h7 : (k == 7) = false := by simp; omega
    have h8 : (k == 8) = false := by simp; omega
    have h9 : (k == 9) = false := by simp; omega
    clear hk HO hz
    go_enter Tryz.func74, Tryz.ntmps74
    go_wp2_with fail
    go_ret
    exact ⟨_, rfl, liesN_none, B0.out⟩
  · by_cases h8 : k = 8
    · subst h8
      have HC := hid (HO rfl _ B0.out)
      generalize inE _ n = q at *
      have X0 := hid (BoxAt.new w [.int .i64 8, .int .i64 num, .string l, .bool m, .slice p L cap] 51)
      have P1 : Hid (∀ (j : Nat) (u : Value), [.int .i64 8, .int .i64 num, .string l, .bool m, .slice p L cap][j]? = some u → (w.alloc (.cells #[.int .i64 8, .int .i64 num, .string l, .bool m, .slice p L cap] 51 (0, 0))).cell? ⟨w.heap.size, 0 + j, none⟩ = some u) := hid fun j u h => by rw [Nat.zero_add]; exact X0.out j u h
      have HZ := hid hz
      clear hk HO hz X0
      go_enter Tryz.func74, Tryz.ntmps74
      go_wp2_with fail
      with_reducible refine HC.out.mono ?_
      rintro e W2 ⟨v', rfl, hl', hb2⟩
      have HB := hid hb2
      have HL := hid hl'
      clear hb2 hl'
      go_wp2_with fail
      go_ret
      exact ⟨_, rfl, HL.out, B0.out.trans (HB.out.mono B0.out.size)⟩
    · rw [show inE (.mk k num l m (.slice p L cap) kids) n = [⟨n + 1, .slice p L cap, kids⟩] from (if_neg hk).trans (if_neg h8)]
      clear HO hz
      rcases (show k = 3 ∨ k = 4 ∨ k = 5 ∨ k = 6 ∨ k = 7 ∨ k = 9 by omega) with rfl | rfl | rfl | rfl | rfl | rfl
      · clear hk h8
        go_enter Tryz.func74, Tryz.ntmps74
        go_wp2_with fail
        go_ret
        have hB := BoxAt.new (w.alloc (.cells #[.int .i64 3, .int .i64 num, .string l, .bool m, .slice p L cap] 51 (0, 0))) [.int .i64 ((n : Int) + 1), .slice p L cap] 125
        rw [show (w.alloc (.cells #[.int .i64 3, .int .i64 num, .string l, .bool m, .slice p L cap] 51 (0, 0))).heap.size = w.heap.size + 1 from Array.size_push ..] at hB
        exact ⟨_, rfl, liesN_one hB, B0.out.alloc (by have := B0.out.size; omega) _⟩
      · clear hk h8
        go_enter Tryz.func74, Tryz.ntmps74
        go_wp2_with fail
        go_ret
        have hB := BoxAt.new (w.alloc (.cells #[.int .i64 4, .int .i64 num, .string l, .bool m, .slice p L cap] 51 (0, 0))) [.int .i64 ((n : Int) + 1), .slice p L cap] 125
        rw [show (w.alloc (.cells #[.int .i64 4, .int .i64 num, .string l, .bool m, .slice p L cap] 51 (0, 0))).heap.size = w.heap.size + 1 from Array.size_push ..] at hB
        exact ⟨_, rfl, liesN_one hB, B0.out.alloc (by have := B0.out.size; omega) _⟩
      · clear hk h8
        go_enter Tryz.func74, Tryz.ntmps74
        go_wp2_with fail
        go_ret
        have hB := BoxAt.new (w.alloc (.cells #[.int .i64 5, .int .i64 num, .string l, .bool m, .slice p L cap] 51 (0, 0))) [.int .i64 ((n : Int) + 1), .slice p L cap] 125
        rw [show (w.alloc (.cells #[.int .i64 5, .int .i64 num, .string l, .bool m, .slice p L cap] 51 (0, 0))).heap.size = w.heap.size + 1 from Array.size_push ..] at hB
        exact ⟨_, rfl, liesN_one hB, B0.out.alloc (by have := B0.out.size; omega) _⟩
      · clear hk h8
        go_enter Tryz.func74, Tryz.ntmps74
        go_wp2_with fail
        go_ret
        have hB := BoxAt.new (w.alloc (.cells #[.int .i64 6, .int .i64 num, .string l, .bool m, .slice p L cap] 51 (0, 0))) [.int .i64 ((n : Int) + 1), .slice p L cap] 125
        rw [show (w.alloc (.cells #[.int .i64 6, .int .i64 num, .string l, .bool m, .slice p L cap] 51 (0, 0))).heap.size = w.heap.size + 1 from Array.size_push ..] at hB
        exact ⟨_, rfl, liesN_one hB, B0.out.alloc (by have := B0.out.size; omega) _⟩
      · clear hk h8
        go_enter Tryz.func74, Tryz.ntmps74
        go_wp2_with fail
        go_ret
        have hB := BoxAt.new (w.alloc (.cells #[.int .i64 7, .int .i64 num, .string l, .bool m, .slice p L cap] 51 (0, 0))) [.int .i64 ((n : Int) + 1), .slice p L cap] 125
        rw [show (w.alloc (.cells #[.int .i64 7, .int .i64 num, .string l, .bool m, .slice p L cap] 51 (0, 0))).heap.size = w.heap.size + 1 from Array.size_push ..] at hB
        exact ⟨_, rfl, liesN_one hB, B0.out.alloc (by have := B0.out.size; omega) _⟩
      · clear hk h8
        go_enter Tryz.func74, Tryz.ntmps74
        go_wp2_with fail
        go_ret
        have hB := BoxAt.new (w.alloc (.cells #[.int .i64 9, .int .i64 num, .string l, .bool m, .slice p L cap] 51 (0, 0))) [.int .i64 ((n : Int) + 1), .slice p L cap] 125
        rw [show (w.alloc (.cells #[.int .i64 9, .int .i64 num, .string l, .bool m, .slice p L cap] 51 (0, 0))).heap.size = w.heap.size + 1 from Array.size_push ..] at hB
        exact ⟨_, rfl, liesN_one hB, B0.out.alloc (by have := B0.out.size; omega) _⟩
end Go.Proofs.YtjkdcladjjpmoaaGreatDoor.TreeC
