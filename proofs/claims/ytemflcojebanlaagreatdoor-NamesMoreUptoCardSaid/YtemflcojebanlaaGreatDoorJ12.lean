/- Texts joined: TreeRC, TreeTE, TreeTJ, TreeRE. -/
import Derived.Test.YtemflcojebanlaaGreatDoorJ03
import Derived.Test.YtemflcojebanlaaGreatDoorJ06
import Derived.Deep.RegionWith
import Derived.Deep.RegionHeld3
import Derived.Deep.DeepCutAuto
/- Contracts of lienbookref02's tests of statements: nothing at all, names, statements. -/
namespace Go.Proofs.YtemflcojebanlaaGreatDoor.TreeC
open Go Go.RowKit Go.Lib LexP TreeP LexC

theorem rightSs_drop {l : List St} {i : Nat} {t : St} (h : l[i]? = some t) : rightSs (l.drop i) = (rightS t && rightSs (l.drop (i + 1))) := by rw [drop_cons h, rightSs]
theorem all_drop {α : Type} (f : α → Bool) {l : List α} {i : Nat} {t : α} (h : l[i]? = some t) : (l.drop i).all f = (f t && (l.drop (i + 1)).all f) := by rw [drop_cons h, List.all_cons]

set_option maxHeartbeats 1000000 in
theorem rNone_any (e : Ex) (w : World) (p : Option Addr) (L cap : Nat) (hv : e.v = .slice p L cap) (hL : e.kids.length = L) (hr : -9223372036854775808 ≤ e.num ∧ e.num ≤ 9223372036854775807) :
  Calls Tryz.prog 116 #[e.val] w fun r w' => r = .returned (.bool e.none) ∧ Below w.heap.size w w' := by
 obtain ⟨k, num, name, mt, v', kids⟩ := e
 obtain rfl : v' = .slice p L cap := hv
 obtain ⟨R, hR⟩ : ∃ R, Ex.none (.mk k num name mt (.slice p L cap) kids) = R := ⟨_, rfl⟩
 rw [hR]
 unfold Ex.none Ex.kind Ex.num Ex.name Ex.mt Ex.kids at hR
 unfold Ex.kids at hL
 unfold Ex.num at hr
 dsimp only at hL hR hr
 rw [hL] at hR
 have HS := hid hR
 clear hL hR
 simp only [Ex.val_mk]
 go_enter Tryz.func116, Tryz.ntmps116
 go_wp2_with fail
 all_goals go_ret
 all_goals refine ⟨ret_bool ?_, (Below.refl _ _).alloc (Nat.le_refl _) _⟩
 all_goals rw [← HS.out]
 all_goals first | (simp [*, ← Lib.toList_data]; done) | (rw [Bool.eq_iff_iff]; simp [*, ← Lib.toList_data]; done) | (rw [Bool.eq_iff_iff]; simp [*, ← Lib.toList_data]; omega)

set_option maxHeartbeats 1000000 in
theorem rNames_any (w : World) (v : Value) (l : List ByteArray) (hl : Lies w 1 v (l.map nmCells)) (hw : wNs l ≤ 1048576) :
  Calls Tryz.prog 50 #[v] w fun r w' => r = .returned (.bool (namesB l)) ∧ Below w.heap.size w w' := by
 obtain ⟨R, hR⟩ : ∃ R, namesB l = R := ⟨_, rfl⟩
 rw [hR]
 unfold namesB at hR
 have hlen := wNs_len l
 have hl' := hl
 obtain ⟨p, cap, rfl, hcap, hx⟩ := hl
 rw [List.length_map] at *
 generalize hL : l.length = L at *
 have HS := hid hR
 have HL := hid hL
 have HX := hid hl'
 clear hx hL hl' hR
 go_enter Tryz.func50, Tryz.ntmps50
 go_wp2_with fail
 go_loopg [3] L (fun gf v wx => ∃ i : Nat, v = .int .i64 (i : Int) ∧ i ≤ L ∧ L ≤ i + gf ∧ Hid (l.all (fun s => nameB (bs s)) = (l.drop i).all (fun s => nameB (bs s))) ∧ Below w.heap.size w wx)
 case atStart => exact ⟨0, rfl, by omega, by omega, hid (by simp), Below.refl _ _⟩
 case round =>
  obtain ⟨i, rfl, hi, hg, HR, hb⟩ := hrel
  by_cases hlt : i < L
  ·obtain ⟨t', ht⟩ : ∃ t', l[i]? = some t' := ⟨l[i]'(by rw [HL.out]; exact hlt), List.getElem?_eq_getElem _⟩
   obtain ⟨b, off, cap', e, _, hx⟩ := Lies.at (HX.out.keep (Keeps.of_below hb)) (i := i) (by rw [List.length_map, HL.out]; exact hlt)
   injection e with e1 e2 e3
   subst e1
   clear e2 e3
   have hw' := wNs_get l i t' ht
   have hx' := hx i (nmCells t') (by rw [List.getElem?_map, ht]; rfl)
   have hr := all_drop (fun s => nameB (bs s)) ht
   have cI := fun W => rName_any t' W (by omega)
   have x0 : wr.cell? ⟨b, off + i, none⟩ = some (.string t') := by simpa using hx' 0 _ rfl
   have x0' : wr.cell? ⟨b, off + i * 1, none⟩ = some (.string t') := by simpa using hx' 0 _ rfl
   clear hx hx' ht
   cases hrt : nameB (bs t')
   ·rw [hrt] at cI hr
    have K : Hid (l.all (fun s => nameB (bs s)) = false) := hid (by rw [HR.out, hr]; rfl)
    have CI := hid cI
    clear cI hr hrt
    go_wp2_with fail
    refine (CI.out _).mono ?_
    rintro e W2 ⟨rfl, hb2⟩
    go_wp2_with fail
    go_ret
    exact ⟨ret_bool (by rw [← HS.out, K.out]; rfl), hb.trans (hb2.mono hb.size)⟩
   ·rw [hrt] at cI hr
    have K : Hid (l.all (fun s => nameB (bs s)) = (l.drop (i + 1)).all (fun s => nameB (bs s))) := hid (by rw [HR.out, hr]; rfl)
    have CI := hid cI
    clear cI hr hrt
    go_wp2_with fail
    refine (CI.out _).mono ?_
    rintro e W2 ⟨rfl, hb2⟩
    go_wp2_with fail
    go_roundg (gk - 1)
    case measure => omega
    case rel => exact ⟨i + 1, by go_num, by omega, by omega, K, hb.trans (hb2.mono hb.size)⟩
  ·obtain rfl : i = L := by omega
   have K : Hid (l.all (fun s => nameB (bs s)) = true) := hid (by rw [HR.out, ← HL.out, List.drop_length]; rfl)
   clear HR
   go_wp2_with fail
   go_ret
   exact ⟨ret_bool (by rw [← HS.out, K.out, Bool.eq_iff_iff]; simp; omega), hb⟩

/-- the contract of a test of one statement -/
def TestS (s : St) (W : World) : Prop := Calls Tryz.prog 88 #[s.val] W fun r w' => r = .returned (.bool (rightS s)) ∧ Below W.heap.size W w'
set_option maxHeartbeats 2000000 in
set_option maxRecDepth 100000 in
theorem rStmts_of (w : World) (v : Value) (l : List St) (hl : Lies w 14 v (l.map St.cells)) (hlen : l.length ≤ 1048576) (H : ∀ s ∈ l, ∀ W, Keeps w W → TestS s W) :
  Calls Tryz.prog 51 #[v] w fun r w' => r = .returned (.bool (rightL l)) ∧ Below w.heap.size w w' := by
 obtain ⟨R, hR⟩ : ∃ R, rightL l = R := ⟨_, rfl⟩
 rw [hR]
 unfold rightL at hR
 have hl' := hl
 obtain ⟨p, cap, rfl, hcap, hx⟩ := hl
 rw [List.length_map] at *
 generalize hL : l.length = L at *
 have HS := hid hR
 have HL := hid hL
 have HX := hid hl'
 have HH := hid H
 clear hx hL hl' hR H
 go_enter Tryz.func51, Tryz.ntmps51
 go_wp2_with fail
 go_loopg [3] L (fun gf v wx => ∃ i : Nat, v = .int .i64 (i : Int) ∧ i ≤ L ∧ L ≤ i + gf ∧ Hid (rightSs l = rightSs (l.drop i)) ∧ Below w.heap.size w wx)
 case atStart => exact ⟨0, rfl, by omega, by omega, hid (by simp), Below.refl _ _⟩
 case round =>
  obtain ⟨i, rfl, hi, hg, HR, hb⟩ := hrel
  by_cases hlt : i < L
  ·obtain ⟨t', ht⟩ : ∃ t', l[i]? = some t' := ⟨l[i]'(by rw [HL.out]; exact hlt), List.getElem?_eq_getElem _⟩
   obtain ⟨b, off, cap', e, _, hx⟩ := Lies.at (HX.out.keep (Keeps.of_below hb)) (i := i) (by rw [List.length_map, HL.out]; exact hlt)
   injection e with e1 e2 e3
   subst e1
   clear e2 e3
   have hx' := hx i t'.cells (by rw [List.getElem?_map, ht]; rfl)
   have hr := rightSs_drop ht
   have cI := HH.out t' (List.mem_of_getElem? ht) wr (Keeps.of_below hb)
   unfold TestS at cI
   have hc : ∀ (j : Nat) (u : Value), t'.cells[j]? = some u → wr.cell? ⟨b, off + i * 14 + j, none⟩ = some u := hx'
   have HC := hid hc
   unfold St.val at cI
   clear hx hx' ht hc
   generalize hss : rightS t' = rs at *
   clear hss
   have HZ := hid (stSize t')
   cases rs
   ·have K : Hid (rightSs l = false) := hid (by rw [HR.out, hr]; rfl)
    have CI := hid cI
    clear cI hr
    go_wp2_with (with_reducible refine wpList_load_at (o := ⟨some 13, _, _, _, _, _⟩) rfl _ _ rfl _ _ rfl t'.cells _ HC.out Tryz.underlying68 rfl HZ.out ?_)
    refine CI.out.mono ?_
    rintro e W2 ⟨rfl, hb2⟩
    go_wp2_with fail
    go_ret
    exact ⟨ret_bool (by rw [← HS.out, K.out]; rfl), hb.trans (hb2.mono hb.size)⟩
   ·have K : Hid (rightSs l = rightSs (l.drop (i + 1))) := hid (by rw [HR.out, hr]; rfl)
    have CI := hid cI
    clear cI hr
    go_wp2_with (with_reducible refine wpList_load_at (o := ⟨some 13, _, _, _, _, _⟩) rfl _ _ rfl _ _ rfl t'.cells _ HC.out Tryz.underlying68 rfl HZ.out ?_)
    refine CI.out.mono ?_
    rintro e W2 ⟨rfl, hb2⟩
    go_wp2_with fail
    go_roundg (gk - 1)
    case measure => omega
    case rel => exact ⟨i + 1, by go_num, by omega, by omega, K, hb.trans (hb2.mono hb.size)⟩
  ·obtain rfl : i = L := by omega
   have K : Hid (rightSs l = true) := hid (by rw [HR.out, ← HL.out, List.drop_length]; rfl)
   clear HR
   go_wp2_with fail
   go_ret
   exact ⟨ret_bool (by rw [← HS.out, K.out, Bool.eq_iff_iff]; simp; omega), hb⟩
end Go.Proofs.YtemflcojebanlaaGreatDoor.TreeC
/- Contract of tree.rightType. -/
namespace Go.Proofs.YtemflcojebanlaaGreatDoor.TreeC
open Go Go.RowKit Go.Lib Go.Sort LexP TreeP LexC

theorem enT : Enters 72 := enters_of Tryz.func72 (by kernel_rfl) rfl
set_option maxHeartbeats 16000000 in
set_option maxRecDepth 100000 in
theorem rightT_any : ∀ (n : Nat) (t : Ty) (w : World), wT t ≤ n → n ≤ 1048576 → t.In w → Tabs w → Calls Tryz.prog 72 #[t.val] w fun r w' => r = .returned (.bool (rightT t)) ∧ Below w.heap.size w w' := by
 intro n
 induction n with
 | zero => intro t w h; obtain ⟨k, life, mt, v, kids⟩ := t; rw [wT] at h; omega
 | succ n ih =>
  intro t w hw hn hin T
  obtain ⟨k, life, mt, v, kids⟩ := t
  rw [wT] at hw
  rw [Ty.In] at hin
  obtain ⟨hl, hk⟩ := hin
  have hlen := wTs_len kids
  obtain ⟨R, hR⟩ : ∃ R, rightT (.mk k life mt v kids) = R := ⟨_, rfl⟩
  rw [hR]
  rw [rightT] at hR
  have y0 : (Ty.mk k life mt v kids).cells[0]? = some (.int .i64 k) := rfl
  have y1 : (Ty.mk k life mt v kids).cells[1]? = some (.string life) := rfl
  have y2 : (Ty.mk k life mt v kids).cells[2]? = some (.bool mt) := rfl
  have y3 : (Ty.mk k life mt v kids).cells[3]? = some v := rfl
  rw [Ty.val]
  generalize (Ty.mk k life mt v kids).cells = cs at *
  have CE : Hid (∀ W, Below w.heap.size w W → Calls Tryz.prog 100 #[v, .func (.func 72) #[] #[]] W fun r w' => r = .returned (.bool (kids.all rightT && decide (kids.length ≤ 30))) ∧ Below W.heap.size W w') :=
   hid fun W hb => every_tySize 72 rightT enT W v kids (hl.keep (Keeps.of_below hb)) (by omega)
    (fun x hx => by
     have hi := (Ty.ins_iff w kids).1 hk x hx
     obtain ⟨k', l', m', v', ks'⟩ := x
     rw [Ty.In] at hi
     obtain ⟨p, c, rfl, _⟩ := hi.1
     exact (show Ones [.int .i64 k', .string l', .bool m', .slice p (List.map Ty.cells ks').length c] from by unfold Ones; simp [Value.oneCell']))
    (fun x hx W' hb' => by
     obtain ⟨i, hi, e⟩ := List.mem_iff_getElem.1 hx
     have := wTs_get kids i x (by rw [List.getElem?_eq_getElem hi, e])
     have hbb := hb.trans (hb'.mono hb.size)
     exact ih x W' (by omega) (by omega) (Ty.In.keep (Keeps.of_below hbb) x ((Ty.ins_iff w kids).1 hk x hx)) (T.below hbb))
  have CN : Hid (∀ W, Below w.heap.size w W → Calls Tryz.prog 68 #[.string life] W fun r w' => r = .returned (.bool (nameB (bs life))) ∧ Below W.heap.size W w') := hid fun W hb => isName_any life W (by omega) (T.below hb)
  obtain ⟨p, cap, rfl, hcap, _⟩ := id hl
  rw [List.length_map] at *
  rw [rightTs_all] at hR
  generalize kids.length = L at *
  have HS := hid hR
  have HY := hid (And.intro y0 (And.intro y1 (And.intro y2 y3)))
  clear hk hl hR y0 y1 y2 y3 ih T hw
  have X0 := hid (BoxAt.new w cs 34)
  have B0 : Hid (Below w.heap.size w (w.alloc (.cells cs.toArray 34 (0, 0)))) := hid ((Below.refl _ _).alloc (Nat.le_refl _) _)
  have hz : Hid ((Tryz.prog.info? 166).map (·.size) = some tabT.toArray.size) := hid (show (Tryz.prog.info? 166).map (·.size) = some 20 by kernel_rfl)
  have ho : Hid (tabT.toArray.all (·.oneCell') = true) := hid (by kernel_rfl)
  have en0 : ∀ (args : Array Value) (w : World), (callFunc 120 args).run Tryz.prog w = .ok (.enter 120 args) w := enters_of Tryz.func120 (by kernel_rfl) rfl
  have en1 : ∀ (args : Array Value) (w : World), (callFunc 121 args).run Tryz.prog w = .ok (.enter 121 args) w := enters_of Tryz.func121 (by kernel_rfl) rfl
  have en2 : ∀ (args : Array Value) (w : World), (callFunc 68 args).run Tryz.prog w = .ok (.enter 68 args) w := enters_of Tryz.func68 (by kernel_rfl) rfl
  have en3 : ∀ (args : Array Value) (w : World), (callFunc 122 args).run Tryz.prog w = .ok (.enter 122 args) w := enters_of Tryz.func122 (by kernel_rfl) rfl
  go_enter Tryz.func72, Tryz.ntmps72
  go_wp2_with fail
  refine (typeKinds_any _).mono ?_
  rintro e W1 ⟨rfl, hb1⟩
  generalize w.alloc _ = W0 at *
  have X1 := hid (X0.out.later hb1)
  have B1 := hid (B0.out.trans (hb1.mono B0.out.size))
  clear hb1
  go_wp2_with (with_reducible refine wpList_store_row (o := ⟨none, _, _, _, _, _⟩) rfl _ _ _ rfl W1.heap.size tabT.toArray rfl ?r1 _ _ (heap_alloc_new _ _) hz.out ?r2 ho.out ?_)
  case r1 => rfl
  case r2 => rfl
  generalize hW2 : (World.alloc W1 _).setRow _ _ = W2
  have hb2 : Below W1.heap.size W1 W2 := by rw [← hW2]; exact rowed_below' _ _ _
  have hX2 : BoxAt W2 W1.heap.size tabT := by rw [← hW2]; exact rowed_box' _ _ _ _
  have X2 := hid (X1.out.later hb2)
  have B2 := hid (B1.out.trans (hb2.mono B1.out.size))
  have XT := hid hX2
  clear hW2 hb2 hX2
  have d0 := box_get X2.out HY.out.1
  have hlt0 : w.heap.size < W2.heap.size := World.block_lt_of_cell? _ _ d0
  have hlt1 : w.heap.size ≠ W2.heap.size := by omega
  simp only [Act.put]
  by_cases hk5 : 1 ≤ k ∧ k < 5
  ·obtain ⟨m, rfl⟩ : ∃ m : Nat, k = (m : Int) := ⟨k.toNat, by omega⟩
   have CA : Hid (∀ W, Below W2.heap.size W2 W → Calls Tryz.prog 99 #[.slice (some ⟨W1.heap.size, 0, none⟩) 5 5, .int .i64 (m : Int)] W fun r w' => r = .returned (.tuple #[.agg (entT m).toArray, .bool true]) ∧ Below W.heap.size W w') :=
    hid fun W hb => atT_yes W W1.heap.size m (XT.out.later hb) (by omega) (by omega)
   generalize kids.all rightT = q at *
   rcases (show m = 1 ∨ m = 2 ∨ m = 3 ∨ m = 4 by omega) with rfl | rfl | rfl | rfl
   ·have cA := CA.out
    simp only [entT] at cA
    have CA' := hid cA
    clear cA CA XT
    go_cut [4, 5] (fun u v wx => ∃ m : Nat, u = .pointer (some ⟨m, 0, none⟩) ∧ v = .bool true ∧ Hid (BoxAt wx m (entT 1) ∧ Below W2.heap.size W2 wx))
    case first =>
     clear CN CE
     go_region_with (go_at_call 99; refine (CA'.out _ ?_).mono ?_; rotate_left; rintro e W3 ⟨rfl, hb3⟩; obtain ⟨hc3, hf3⟩ := bcell hb3; rotate_left; (first | exact (Below.refl _ _).drew | exact ((Below.refl _ _).drew).alloc (Nat.le_refl _) _ | exact ((Below.refl _ _).alloc (Nat.le_refl _) _).drew))
     all_goals go_wp2_with fail
     all_goals simp only [Act.put, List.getElem_toArray, List.getElem_cons_succ, List.getElem_cons_zero, List.setIfInBounds_toArray, List.set_cons_zero, List.set_cons_succ]
     all_goals go_meet
     ·have e := laid_behind (W2 := W2) (entT 1) 165 ⟨hb3.os, hb3.tape, hb3.output, hb3.size, hb3.block⟩
      exact ⟨_, rfl, rfl, hid e⟩
     ·have e := laid_ahead (W2 := W2) (entT 0) (entT 1) 165 rfl ⟨hb3.os, hb3.tape, hb3.output, hb3.size, hb3.block⟩
      exact ⟨_, rfl, rfl, hid e⟩
     ·have e := laid_ahead (W2 := W2) (entT 0) (entT 1) 165 rfl ⟨hb3.os, hb3.tape, hb3.output, hb3.size, hb3.block⟩
      exact ⟨_, rfl, rfl, hid e⟩
    case rest =>
     obtain ⟨m, rfl, rfl, hB⟩ := hcut
     have XE := hid hB.out.1
     have B3 := hid (B2.out.trans (hB.out.2.mono B2.out.size))
     have X3 := hid (X2.out.later hB.out.2)
     clear hB d0 hlt0 hlt1
     have d1 := box_get X3.out HY.out.2.1
     have d2 := box_get X3.out HY.out.2.2.1
     have d3 := box_get X3.out HY.out.2.2.2
     have a0 := box_get XE.out (j := 0) rfl
     have a1 := box_get XE.out (j := 1) rfl
     have a2 := box_get XE.out (j := 2) rfl
     have a3 := box_get XE.out (j := 3) rfl
     have CL := hid (fun W => noneS_any life W)
     cases hq1 : (bs life).isEmpty
     ·rw [hq1] at CL
      go_wp2_with fail
      with_reducible refine (CL.out _).mono ?_
      rintro e W4 ⟨rfl, rfl⟩
      go_wp2_with fail
      go_ret
      exact ⟨ret_bool (by rw [← HS.out]; first | (simp [*]; done) | (simp [*]; omega) | (rw [Bool.eq_iff_iff]; simp [*]; done) | (rw [Bool.eq_iff_iff]; simp [*]; omega)), B3.out⟩
     rw [hq1] at CL
     go_wp2_with fail
     with_reducible refine (CL.out _).mono ?_
     rintro e W4 ⟨rfl, rfl⟩
     have CM := hid (fun W => noneB_any mt W)
     cases mt
     rotate_left
     ·go_wp2_with fail
      with_reducible refine (CM.out _).mono ?_
      rintro e W5 ⟨rfl, rfl⟩
      go_wp2_with fail
      go_ret
      exact ⟨ret_bool (by rw [← HS.out]; first | (simp [*]; done) | (simp [*]; omega) | (rw [Bool.eq_iff_iff]; simp [*]; done) | (rw [Bool.eq_iff_iff]; simp [*]; omega)), B3.out⟩
     go_wp2_with fail
     with_reducible refine (CM.out _).mono ?_
     rintro e W5 ⟨rfl, rfl⟩
     by_cases hhi : 0 < L
     ·go_wp2_with fail
      go_ret
      exact ⟨ret_bool (by rw [← HS.out]; first | (simp [*]; done) | (simp [*]; omega) | (rw [Bool.eq_iff_iff]; simp [*]; done) | (rw [Bool.eq_iff_iff]; simp [*]; omega)), B3.out⟩
     obtain rfl : L = 0 := by omega
     clear hhi
     go_wp2_with fail
     with_reducible refine (CE.out _ B3.out).mono ?_
     rintro e W6 ⟨rfl, hb6⟩
     go_wp2_with fail
     go_ret
     exact ⟨ret_bool (by rw [← HS.out]; first | (simp [*]; done) | (simp [*]; omega) | (rw [Bool.eq_iff_iff]; simp [*]; done) | (rw [Bool.eq_iff_iff]; simp [*]; omega)), B3.out.trans (hb6.mono B3.out.size)⟩
   ·have cA := CA.out
    simp only [entT] at cA
    have CA' := hid cA
    clear cA CA XT
    go_cut [4, 5] (fun u v wx => ∃ m : Nat, u = .pointer (some ⟨m, 0, none⟩) ∧ v = .bool true ∧ Hid (BoxAt wx m (entT 2) ∧ Below W2.heap.size W2 wx))
    case first =>
     clear CN CE
     go_region_with (go_at_call 99; refine (CA'.out _ ?_).mono ?_; rotate_left; rintro e W3 ⟨rfl, hb3⟩; obtain ⟨hc3, hf3⟩ := bcell hb3; rotate_left; (first | exact (Below.refl _ _).drew | exact ((Below.refl _ _).drew).alloc (Nat.le_refl _) _ | exact ((Below.refl _ _).alloc (Nat.le_refl _) _).drew))
     all_goals go_wp2_with fail
     all_goals simp only [Act.put, List.getElem_toArray, List.getElem_cons_succ, List.getElem_cons_zero, List.setIfInBounds_toArray, List.set_cons_zero, List.set_cons_succ]
     all_goals go_meet
     ·have e := laid_behind (W2 := W2) (entT 2) 165 ⟨hb3.os, hb3.tape, hb3.output, hb3.size, hb3.block⟩
      exact ⟨_, rfl, rfl, hid e⟩
     ·have e := laid_ahead (W2 := W2) (entT 0) (entT 2) 165 rfl ⟨hb3.os, hb3.tape, hb3.output, hb3.size, hb3.block⟩
      exact ⟨_, rfl, rfl, hid e⟩
     ·have e := laid_ahead (W2 := W2) (entT 0) (entT 2) 165 rfl ⟨hb3.os, hb3.tape, hb3.output, hb3.size, hb3.block⟩
      exact ⟨_, rfl, rfl, hid e⟩
    case rest =>
     obtain ⟨m, rfl, rfl, hB⟩ := hcut
     have XE := hid hB.out.1
     have B3 := hid (B2.out.trans (hB.out.2.mono B2.out.size))
     have X3 := hid (X2.out.later hB.out.2)
     clear hB d0 hlt0 hlt1
     have d1 := box_get X3.out HY.out.2.1
     have d2 := box_get X3.out HY.out.2.2.1
     have d3 := box_get X3.out HY.out.2.2.2
     have a0 := box_get XE.out (j := 0) rfl
     have a1 := box_get XE.out (j := 1) rfl
     have a2 := box_get XE.out (j := 2) rfl
     have a3 := box_get XE.out (j := 3) rfl
     have CL := hid (fun W => noneS_any life W)
     cases hq1 : (bs life).isEmpty
     ·rw [hq1] at CL
      go_wp2_with fail
      with_reducible refine (CL.out _).mono ?_
      rintro e W4 ⟨rfl, rfl⟩
      go_wp2_with fail
      go_ret
      exact ⟨ret_bool (by rw [← HS.out]; first | (simp [*]; done) | (simp [*]; omega) | (rw [Bool.eq_iff_iff]; simp [*]; done) | (rw [Bool.eq_iff_iff]; simp [*]; omega)), B3.out⟩
     rw [hq1] at CL
     go_wp2_with fail
     with_reducible refine (CL.out _).mono ?_
     rintro e W4 ⟨rfl, rfl⟩
     have CM := hid (fun W => noneB_any mt W)
     cases mt
     rotate_left
     ·go_wp2_with fail
      with_reducible refine (CM.out _).mono ?_
      rintro e W5 ⟨rfl, rfl⟩
      go_wp2_with fail
      go_ret
      exact ⟨ret_bool (by rw [← HS.out]; first | (simp [*]; done) | (simp [*]; omega) | (rw [Bool.eq_iff_iff]; simp [*]; done) | (rw [Bool.eq_iff_iff]; simp [*]; omega)), B3.out⟩
     go_wp2_with fail
     with_reducible refine (CM.out _).mono ?_
     rintro e W5 ⟨rfl, rfl⟩
     by_cases hlo : L < 1
     ·go_wp2_with fail
      go_ret
      exact ⟨ret_bool (by rw [← HS.out]; first | (simp [*]; done) | (simp [*]; omega) | (rw [Bool.eq_iff_iff]; simp [*]; done) | (rw [Bool.eq_iff_iff]; simp [*]; omega)), B3.out⟩
     have hlo' : 1 ≤ L := by omega
     by_cases hhi : 1 < L
     ·go_wp2_with fail
      go_ret
      exact ⟨ret_bool (by rw [← HS.out]; first | (simp [*]; done) | (simp [*]; omega) | (rw [Bool.eq_iff_iff]; simp [*]; done) | (rw [Bool.eq_iff_iff]; simp [*]; omega)), B3.out⟩
     obtain rfl : L = 1 := by omega
     clear hhi hlo hlo'
     go_wp2_with fail
     with_reducible refine (CE.out _ B3.out).mono ?_
     rintro e W6 ⟨rfl, hb6⟩
     go_wp2_with fail
     go_ret
     exact ⟨ret_bool (by rw [← HS.out]; first | (simp [*]; done) | (simp [*]; omega) | (rw [Bool.eq_iff_iff]; simp [*]; done) | (rw [Bool.eq_iff_iff]; simp [*]; omega)), B3.out.trans (hb6.mono B3.out.size)⟩
   ·have cA := CA.out
    simp only [entT] at cA
    have CA' := hid cA
    clear cA CA XT
    go_cut [4, 5] (fun u v wx => ∃ m : Nat, u = .pointer (some ⟨m, 0, none⟩) ∧ v = .bool true ∧ Hid (BoxAt wx m (entT 3) ∧ Below W2.heap.size W2 wx))
    case first =>
     clear CN CE
     go_region_with (go_at_call 99; refine (CA'.out _ ?_).mono ?_; rotate_left; rintro e W3 ⟨rfl, hb3⟩; obtain ⟨hc3, hf3⟩ := bcell hb3; rotate_left; (first | exact (Below.refl _ _).drew | exact ((Below.refl _ _).drew).alloc (Nat.le_refl _) _ | exact ((Below.refl _ _).alloc (Nat.le_refl _) _).drew))
     all_goals go_wp2_with fail
     all_goals simp only [Act.put, List.getElem_toArray, List.getElem_cons_succ, List.getElem_cons_zero, List.setIfInBounds_toArray, List.set_cons_zero, List.set_cons_succ]
     all_goals go_meet
     ·have e := laid_behind (W2 := W2) (entT 3) 165 ⟨hb3.os, hb3.tape, hb3.output, hb3.size, hb3.block⟩
      exact ⟨_, rfl, rfl, hid e⟩
     ·have e := laid_ahead (W2 := W2) (entT 0) (entT 3) 165 rfl ⟨hb3.os, hb3.tape, hb3.output, hb3.size, hb3.block⟩
      exact ⟨_, rfl, rfl, hid e⟩
     ·have e := laid_ahead (W2 := W2) (entT 0) (entT 3) 165 rfl ⟨hb3.os, hb3.tape, hb3.output, hb3.size, hb3.block⟩
      exact ⟨_, rfl, rfl, hid e⟩
    case rest =>
     obtain ⟨m, rfl, rfl, hB⟩ := hcut
     have XE := hid hB.out.1
     have B3 := hid (B2.out.trans (hB.out.2.mono B2.out.size))
     have X3 := hid (X2.out.later hB.out.2)
     clear hB d0 hlt0 hlt1
     have d1 := box_get X3.out HY.out.2.1
     have d2 := box_get X3.out HY.out.2.2.1
     have d3 := box_get X3.out HY.out.2.2.2
     have a0 := box_get XE.out (j := 0) rfl
     have a1 := box_get XE.out (j := 1) rfl
     have a2 := box_get XE.out (j := 2) rfl
     have a3 := box_get XE.out (j := 3) rfl
     have CL := hid (fun W => noneS_any life W)
     cases hq1 : (bs life).isEmpty
     ·rw [hq1] at CL
      go_wp2_with fail
      with_reducible refine (CL.out _).mono ?_
      rintro e W4 ⟨rfl, rfl⟩
      go_wp2_with fail
      go_ret
      exact ⟨ret_bool (by rw [← HS.out]; first | (simp [*]; done) | (simp [*]; omega) | (rw [Bool.eq_iff_iff]; simp [*]; done) | (rw [Bool.eq_iff_iff]; simp [*]; omega)), B3.out⟩
     rw [hq1] at CL
     go_wp2_with fail
     with_reducible refine (CL.out _).mono ?_
     rintro e W4 ⟨rfl, rfl⟩
     have CM := hid (fun W => noneB_any mt W)
     cases mt
     rotate_left
     ·go_wp2_with fail
      with_reducible refine (CM.out _).mono ?_
      rintro e W5 ⟨rfl, rfl⟩
      go_wp2_with fail
      go_ret
      exact ⟨ret_bool (by rw [← HS.out]; first | (simp [*]; done) | (simp [*]; omega) | (rw [Bool.eq_iff_iff]; simp [*]; done) | (rw [Bool.eq_iff_iff]; simp [*]; omega)), B3.out⟩
     go_wp2_with fail
     with_reducible refine (CM.out _).mono ?_
     rintro e W5 ⟨rfl, rfl⟩
     by_cases hlo : L < 2
     ·go_wp2_with fail
      go_ret
      exact ⟨ret_bool (by rw [← HS.out]; first | (simp [*]; done) | (simp [*]; omega) | (rw [Bool.eq_iff_iff]; simp [*]; done) | (rw [Bool.eq_iff_iff]; simp [*]; omega)), B3.out⟩
     have hlo' : 2 ≤ L := by omega
     by_cases hhi : 30 < L
     ·go_wp2_with fail
      go_ret
      exact ⟨ret_bool (by rw [← HS.out]; first | (simp [*]; done) | (simp [*]; omega) | (rw [Bool.eq_iff_iff]; simp [*]; done) | (rw [Bool.eq_iff_iff]; simp [*]; omega)), B3.out⟩
     have hhi' : L ≤ 30 := by omega
     go_wp2_with fail
     with_reducible refine (CE.out _ B3.out).mono ?_
     rintro e W6 ⟨rfl, hb6⟩
     go_wp2_with fail
     go_ret
     exact ⟨ret_bool (by rw [← HS.out]; first | (simp [*]; done) | (simp [*]; omega) | (rw [Bool.eq_iff_iff]; simp [*]; done) | (rw [Bool.eq_iff_iff]; simp [*]; omega)), B3.out.trans (hb6.mono B3.out.size)⟩
   ·have cA := CA.out
    simp only [entT] at cA
    have CA' := hid cA
    clear cA CA XT
    go_cut [4, 5] (fun u v wx => ∃ m : Nat, u = .pointer (some ⟨m, 0, none⟩) ∧ v = .bool true ∧ Hid (BoxAt wx m (entT 4) ∧ Below W2.heap.size W2 wx))
    case first =>
     clear CN CE
     go_region_with (go_at_call 99; refine (CA'.out _ ?_).mono ?_; rotate_left; rintro e W3 ⟨rfl, hb3⟩; obtain ⟨hc3, hf3⟩ := bcell hb3; rotate_left; (first | exact (Below.refl _ _).drew | exact ((Below.refl _ _).drew).alloc (Nat.le_refl _) _ | exact ((Below.refl _ _).alloc (Nat.le_refl _) _).drew))
     all_goals go_wp2_with fail
     all_goals simp only [Act.put, List.getElem_toArray, List.getElem_cons_succ, List.getElem_cons_zero, List.setIfInBounds_toArray, List.set_cons_zero, List.set_cons_succ]
     all_goals go_meet
     ·have e := laid_behind (W2 := W2) (entT 4) 165 ⟨hb3.os, hb3.tape, hb3.output, hb3.size, hb3.block⟩
      exact ⟨_, rfl, rfl, hid e⟩
     ·have e := laid_ahead (W2 := W2) (entT 0) (entT 4) 165 rfl ⟨hb3.os, hb3.tape, hb3.output, hb3.size, hb3.block⟩
      exact ⟨_, rfl, rfl, hid e⟩
     ·have e := laid_ahead (W2 := W2) (entT 0) (entT 4) 165 rfl ⟨hb3.os, hb3.tape, hb3.output, hb3.size, hb3.block⟩
      exact ⟨_, rfl, rfl, hid e⟩
    case rest =>
     obtain ⟨m, rfl, rfl, hB⟩ := hcut
     have XE := hid hB.out.1
     have B3 := hid (B2.out.trans (hB.out.2.mono B2.out.size))
     have X3 := hid (X2.out.later hB.out.2)
     clear hB d0 hlt0 hlt1
     have d1 := box_get X3.out HY.out.2.1
     have d2 := box_get X3.out HY.out.2.2.1
     have d3 := box_get X3.out HY.out.2.2.2
     have a0 := box_get XE.out (j := 0) rfl
     have a1 := box_get XE.out (j := 1) rfl
     have a2 := box_get XE.out (j := 2) rfl
     have a3 := box_get XE.out (j := 3) rfl
     cases hq1 : nameB (bs life)
     ·rw [hq1] at CN
      go_wp2_with fail
      with_reducible refine (CN.out _ B3.out).mono ?_
      rintro e W4 ⟨rfl, hb4⟩
      go_wp2_with fail
      go_ret
      exact ⟨ret_bool (by rw [← HS.out]; first | (simp [*]; done) | (simp [*]; omega) | (rw [Bool.eq_iff_iff]; simp [*]; done) | (rw [Bool.eq_iff_iff]; simp [*]; omega)), B3.out.trans (hb4.mono B3.out.size)⟩
     rw [hq1] at CN
     go_wp2_with fail
     with_reducible refine (CN.out _ B3.out).mono ?_
     rintro e W4 ⟨rfl, hb4⟩
     have B4 := hid (B3.out.trans (hb4.mono B3.out.size))
     have X4 := hid (X3.out.later hb4)
     have XE4 := hid (XE.out.later hb4)
     clear d1 d2 d3 a0 a1 a2 a3 hb4
     have d1 := box_get X4.out HY.out.2.1
     have d2 := box_get X4.out HY.out.2.2.1
     have d3 := box_get X4.out HY.out.2.2.2
     have a0 := box_get XE4.out (j := 0) rfl
     have a1 := box_get XE4.out (j := 1) rfl
     have a2 := box_get XE4.out (j := 2) rfl
     have a3 := box_get XE4.out (j := 3) rfl
     have CM := hid (fun W => either_any mt W)
     go_wp2_with fail
     with_reducible refine (CM.out _).mono ?_
     rintro e W5 ⟨rfl, rfl⟩
     by_cases hlo : L < 1
     ·go_wp2_with fail
      go_ret
      exact ⟨ret_bool (by rw [← HS.out]; first | (simp [*]; done) | (simp [*]; omega) | (rw [Bool.eq_iff_iff]; simp [*]; done) | (rw [Bool.eq_iff_iff]; simp [*]; omega)), B4.out⟩
     have hlo' : 1 ≤ L := by omega
     by_cases hhi : 1 < L
     ·go_wp2_with fail
      go_ret
      exact ⟨ret_bool (by rw [← HS.out]; first | (simp [*]; done) | (simp [*]; omega) | (rw [Bool.eq_iff_iff]; simp [*]; done) | (rw [Bool.eq_iff_iff]; simp [*]; omega)), B4.out⟩
     obtain rfl : L = 1 := by omega
     clear hhi hlo hlo'
     go_wp2_with fail
     with_reducible refine (CE.out _ B4.out).mono ?_
     rintro e W6 ⟨rfl, hb6⟩
     go_wp2_with fail
     go_ret
     exact ⟨ret_bool (by rw [← HS.out]; first | (simp [*]; done) | (simp [*]; omega) | (rw [Bool.eq_iff_iff]; simp [*]; done) | (rw [Bool.eq_iff_iff]; simp [*]; omega)), B4.out.trans (hb6.mono B4.out.size)⟩
  ·have CA : Hid (∀ W, Below W2.heap.size W2 W → Calls Tryz.prog 99 #[.slice (some ⟨W1.heap.size, 0, none⟩) 5 5, .int .i64 k] W fun r w' => r = .returned (.tuple #[.agg (entT 0).toArray, .bool false]) ∧ Below W.heap.size W w') := hid fun W hb => atT_no W W1.heap.size k (by omega)
   generalize kids.all rightT = q at *
   have cA := CA.out
   simp only [entT] at cA
   have CA' := hid cA
   clear cA CA XT
   go_cut [4, 5] (fun u v wx => ∃ m : Nat, u = .pointer (some ⟨m, 0, none⟩) ∧ v = .bool false ∧ Hid (BoxAt wx m (entT 0) ∧ Below W2.heap.size W2 wx))
   case first =>
    clear CN CE
    go_region_with (go_at_call 99; refine (CA'.out _ ?_).mono ?_; rotate_left; rintro e W3 ⟨rfl, hb3⟩; obtain ⟨hc3, hf3⟩ := bcell hb3; rotate_left; (first | exact (Below.refl _ _).drew | exact ((Below.refl _ _).drew).alloc (Nat.le_refl _) _ | exact ((Below.refl _ _).alloc (Nat.le_refl _) _).drew))
    all_goals go_wp2_with fail
    all_goals simp only [Act.put, List.getElem_toArray, List.getElem_cons_succ, List.getElem_cons_zero, List.setIfInBounds_toArray, List.set_cons_zero, List.set_cons_succ]
    all_goals go_meet
    ·have e := laid_behind (W2 := W2) (entT 0) 165 ⟨hb3.os, hb3.tape, hb3.output, hb3.size, hb3.block⟩
     exact ⟨_, rfl, rfl, hid e⟩
    ·have e := laid_ahead (W2 := W2) (entT 0) (entT 0) 165 rfl ⟨hb3.os, hb3.tape, hb3.output, hb3.size, hb3.block⟩
     exact ⟨_, rfl, rfl, hid e⟩
    ·have e := laid_ahead (W2 := W2) (entT 0) (entT 0) 165 rfl ⟨hb3.os, hb3.tape, hb3.output, hb3.size, hb3.block⟩
     exact ⟨_, rfl, rfl, hid e⟩
   case rest =>
    obtain ⟨m, rfl, rfl, hB⟩ := hcut
    have XE := hid hB.out.1
    have B3 := hid (B2.out.trans (hB.out.2.mono B2.out.size))
    have X3 := hid (X2.out.later hB.out.2)
    clear hB d0 hlt0 hlt1
    go_wp2_with fail
    go_ret
    exact ⟨ret_bool (by rw [← HS.out, if_neg (by omega), show (k == 1) = false by simp; omega, show (k == 2) = false by simp; omega, show (k == 3) = false by simp; omega]; simp), B3.out⟩
/- Contracts of tree.every at strings, tree.rightParam. -/

theorem enPr : Enters 71 := enters_of Tryz.func71 (by kernel_rfl) rfl

set_option maxHeartbeats 4000000 in
set_option maxRecDepth 100000 in
theorem every_str (g : Nat) (f : ByteArray → Bool) (eg : Enters g) (w : World) (v : Value) (l : List ByteArray) (hl : Lies w 1 v (l.map nmCells)) (hlen : l.length ≤ 1048576)
  (H : ∀ x ∈ l, ∀ W, Below w.heap.size w W → Calls Tryz.prog g #[.string x] W fun r w' => r = .returned (.bool (f x)) ∧ Below W.heap.size W w') :
  Calls Tryz.prog 69 #[v, .func (.func g) #[] #[]] w fun r w' => r = .returned (.bool (l.all f && decide (l.length ≤ 30))) ∧ Below w.heap.size w w' := by
 obtain ⟨R, hR⟩ : ∃ R, (l.all f && decide (l.length ≤ 30)) = R := ⟨_, rfl⟩
 rw [hR]
 have eg' : ∀ (args : Array Value) (w : World), (callFunc g args).run Tryz.prog w = .ok (.enter g args) w := eg
 have hl' := hl
 obtain ⟨p, cap, rfl, hcap, hx⟩ := hl
 rw [List.length_map] at *
 generalize hL : l.length = L at *
 have HS := hid hR
 have HL := hid hL
 have HX := hid hl'
 have HH := hid H
 clear hx hL hl' hR H eg
 by_cases h30 : 30 < L
 ·clear eg'
  go_enter Tryz.func69, Tryz.ntmps69
  go_wp2_with fail
  go_ret
  exact ⟨ret_bool (by rw [← HS.out]; simp; omega), Below.refl _ _⟩
 go_enter Tryz.func69, Tryz.ntmps69
 go_wp2_with fail
 go_loopg [12] L (fun gf v wx => ∃ i : Nat, v = .int .i64 (i : Int) ∧ i ≤ L ∧ L ≤ i + gf ∧ Hid (l.all f = (l.drop i).all f) ∧ Hid (Below w.heap.size w wx))
 case atStart => exact ⟨0, rfl, by omega, by omega, hid (by simp), hid (Below.refl _ _)⟩
 case round =>
  obtain ⟨i, rfl, hi, hg, HR, HB⟩ := hrel
  by_cases hlt : i < L
  ·obtain ⟨t', ht⟩ : ∃ t', l[i]? = some t' := ⟨l[i]'(by rw [HL.out]; exact hlt), List.getElem?_eq_getElem _⟩
   obtain ⟨b, off, cap', e, _, hx⟩ := Lies.at (HX.out.keep (Keeps.of_below HB.out)) (i := i) (by rw [List.length_map, HL.out]; exact hlt)
   injection e with e1 e2 e3
   subst e1
   clear e2 e3
   have hx' := hx i (nmCells t') (by rw [List.getElem?_map, ht]; rfl)
   have y0 : wr.cell? ⟨b, off + i, none⟩ = some (.string t') := by have := hx' 0 _ rfl; rw [Nat.mul_one] at this; exact this
   have hr := all_drop f ht
   have CI := hid (HH.out t' (List.mem_of_getElem? ht) wr HB.out)
   generalize f t' = ft at *
   have HRR := hid hr
   clear hx hx' ht hr
   go_wp2_with fail
   with_reducible refine CI.out.mono ?_
   rintro e w3 ⟨rfl, hb3⟩
   cases ft
   ·have K : Hid (R = false) := hid (by rw [← HS.out, HR.out, HRR.out]; rfl)
    go_wp2_with fail
    go_ret
    exact ⟨ret_bool K.out.symm, HB.out.trans (hb3.mono HB.out.size)⟩
   ·have K : Hid (l.all f = (l.drop (i + 1)).all f) := hid (by rw [HR.out, HRR.out]; rfl)
    go_wp2_with fail
    go_roundg (gk - 1)
    case measure => omega
    case rel => exact ⟨i + 1, by go_num, by omega, by omega, K, hid (HB.out.trans (hb3.mono HB.out.size))⟩
  ·obtain rfl : i = L := by omega
   have K : Hid (R = true) := hid (by
    have h := HR.out
    rw [← HL.out, List.drop_length] at h
    rw [← HS.out, h]; simp; omega)
   clear eg'
   go_wp2_with fail
   go_ret
   exact ⟨ret_bool K.out.symm, HB.out⟩
theorem names_any (w : World) (v : Value) (l : List ByteArray) (hl : Lies w 1 v (l.map nmCells)) (hw : wNs l ≤ 1048576) (T : Tabs w) :
  Calls Tryz.prog 69 #[v, .func (.func 68) #[] #[]] w fun r w' => r = .returned (.bool (namesB l)) ∧ Below w.heap.size w w' :=
 every_str 68 (fun s => nameB (bs s)) enNa w v l hl (by have := wNs_len l; omega) fun x hx W hb => by
  obtain ⟨i, hi, e⟩ := List.mem_iff_getElem.1 hx
  have := wNs_get l i x (by rw [List.getElem?_eq_getElem hi, e])
  exact isName_any x W (by omega) (T.below hb)

theorem Pa.type_cells {p : Pa} {j : Nat} {u : Value} (h : p.type.cells[j]? = some u) : (Pa.cells p)[1 + j]? = some u := by
 obtain ⟨a, ⟨c1, c2, c3, c4, c5⟩⟩ := p
 match j, h with
 | 0, h => exact h
 | 1, h => exact h
 | 2, h => exact h
 | 3, h => exact h
 | j + 4, h => simp [Ty.cells] at h
set_option maxHeartbeats 4000000 in
set_option maxRecDepth 100000 in
theorem rightPa_any (q : Pa) (w : World) (hw : wPa q ≤ 1048576) (hin : q.In w) (T : Tabs w) : Calls Tryz.prog 71 #[.agg (Pa.cells q).toArray] w fun r w' => r = .returned (.bool (rightPa q)) ∧ Below w.heap.size w w' := by
 unfold wPa at hw
 have c1 : Hid (∀ W, Below w.heap.size w W → Calls Tryz.prog 68 #[.string q.name] W fun r w' => r = .returned (.bool (nameB (bs q.name))) ∧ Below W.heap.size W w') := hid fun W hb => isName_any q.name W (by omega) (T.below hb)
 have c2 : Hid (∀ W, Below w.heap.size w W → Calls Tryz.prog 72 #[.agg q.type.cells.toArray] W fun r w' => r = .returned (.bool (rightT q.type)) ∧ Below W.heap.size W w') := hid fun W hb => rightT_any _ q.type W (Nat.le_refl _) (by omega) (Ty.In.keep (Keeps.of_below hb) _ hin) (T.below hb)
 have z0 : (Pa.cells q)[0]? = some (.string q.name) := rfl
 have zt : ∀ j u, q.type.cells[j]? = some u → (Pa.cells q)[1 + j]? = some u := fun j u h => Pa.type_cells h
 obtain ⟨R, hR⟩ : ∃ R, rightPa q = R := ⟨_, rfl⟩
 rw [hR]
 unfold rightPa at hR
 have SG := hid (tySize q.type)
 generalize nameB (bs q.name) = nb at *
 generalize rightT q.type = tb at *
 generalize q.name = name at *
 generalize q.type.cells = tc at *
 generalize Pa.cells q = cs at *
 have HS := hid hR
 have HY := hid (And.intro z0 zt)
 clear hR z0 zt hw hin T
 have B0 := hid (show Below w.heap.size w (w.alloc (.cells cs.toArray 52 (0, 0))) from (Below.refl _ _).alloc (Nat.le_refl _) _)
 have X0 := hid (BoxAt.new w cs 52)
 have d0 := box_get X0.out HY.out.1
 go_enter Tryz.func71, Tryz.ntmps71
 go_wp2_with fail
 with_reducible refine (c1.out _ B0.out).mono ?_
 rintro e W1 ⟨rfl, hb1⟩
 have B1 := hid (B0.out.trans (hb1.mono B0.out.size))
 have X1 := hid (X0.out.later hb1)
 clear d0 hb1
 cases nb
 ·go_wp2_with fail
  go_ret
  exact ⟨ret_bool (by rw [← HS.out]; rfl), B1.out⟩
 go_wp2_with (with_reducible refine wpList_load_at (o := ⟨some 8, _, _, _, _, _⟩) rfl _ _ rfl w.heap.size 1 rfl tc _ (fun j u h => box_get X1.out (HY.out.2 j u h)) Tryz.underlying34 rfl SG.out ?_)
 with_reducible refine (c2.out _ B1.out).mono ?_
 rintro e W2 ⟨rfl, hb2⟩
 go_wp2_with fail
 go_ret
 exact ⟨ret_bool (by rw [← HS.out]; rfl), B1.out.trans (hb2.mono B1.out.size)⟩
theorem pa_ones {w : World} {q : Pa} (h : q.In w) : Ones (Pa.cells q) := by
 obtain ⟨a, ⟨k', l', m', v', ks'⟩⟩ := q
 unfold Pa.In at h
 rw [Ty.In] at h
 obtain ⟨p, c, e, _⟩ := h.1
 subst e
 exact (show Ones [.string a, .int .i64 k', .string l', .bool m', .slice p (List.map Ty.cells ks').length c] from by unfold Ones; simp [Value.oneCell'])
/- Contract of lienbookref02.loops. -/

theorem loopSs_snoc (l : List St) (i : Nat) (t : St) (h : l[i]? = some t) : loopSs (l.take (i + 1)) = max (loopSs (l.take i)) (loopS t) := by
 induction l generalizing i with
 | nil => simp at h
 | cons x l ih =>
  cases i with
  | zero => simp at h; subst h; simp [loopSs]
  | succ i => rw [List.take_succ_cons, List.take_succ_cons, loopSs, loopSs, ih i (by simpa using h)]; omega
mutual
theorem loopS_le : ∀ s : St, loopS s ≤ wS s
 | .mk k name place expr tv thn ev els => by
  have h1 := loopSs_le thn
  have h2 := loopSs_le els
  rw [loopS, wS]
  split <;> omega
theorem loopSs_le : ∀ l : List St, loopSs l ≤ wSs l
 | [] => by simp [loopSs]
 | t :: ts => by
  have h1 := loopS_le t
  have h2 := loopSs_le ts
  rw [loopSs, wSs]
  omega
end
set_option maxHeartbeats 4000000 in
set_option maxRecDepth 100000 in
theorem rloops_any : ∀ (n : Nat) (l : List St) (w : World) (v : Value), wSs l ≤ n → n ≤ 1048576 → Lies w 14 v (l.map St.cells) → St.Ins w l →
  Calls Tryz.prog 52 #[v] w fun r w' => r = .returned (.int .i64 (loopSs l : Int)) ∧ Below w.heap.size w w' := by
 intro n
 induction n using Nat.strongRecOn with
 | ind n ih =>
  intro l w v hw hn hl hin
  have hlen := wSs_len l
  obtain ⟨p, cap, rfl, hcap, hx⟩ := id hl
  rw [List.length_map] at *
  obtain ⟨R, hR⟩ : ∃ R, loopSs l = R := ⟨_, rfl⟩
  rw [hR]
  have hLR := loopSs_le l
  generalize hL : l.length = L at *
  have HR := hid hR
  have HL := hid hL
  have HX := hid hl
  have HI := hid hin
  clear hx hL hl hin hR
  go_enter Tryz.func52, Tryz.ntmps52
  go_wp2_with fail
  go_loopg [3, 4] L (fun gf u v wx => ∃ i a : Nat, u = .int .i64 (a : Int) ∧ v = .int .i64 (i : Int) ∧ i ≤ L ∧ L ≤ i + gf ∧ Hid (a = loopSs (l.take i)) ∧ Below w.heap.size w wx)
  case atStart => exact ⟨0, 0, rfl, rfl, by omega, by omega, hid (by simp [loopSs]), Below.refl _ _⟩
  case round =>
   obtain ⟨i, a, rfl, rfl, hi, hg, HA, hb⟩ := hrel
   by_cases hlt : i < L
   ·obtain ⟨t', ht⟩ : ∃ t', l[i]? = some t' := ⟨l[i]'(by rw [HL.out]; exact hlt), List.getElem?_eq_getElem _⟩
    obtain ⟨b, off, cap', e, _, hx⟩ := Lies.at (HX.out.keep (Keeps.of_below hb)) (i := i) (by rw [List.length_map, HL.out]; exact hlt)
    injection e with e1 e2 e3
    subst e1
    clear e2 e3
    have hx' := hx i t'.cells (by rw [List.getElem?_map, ht]; rfl)
    have hsn := loopSs_snoc l i t' ht
    have hws := wSs_get l i t' ht
    have hin' := St.In.keep (Keeps.of_below hb) t' ((St.ins_iff w l).1 HI.out t' (List.mem_of_getElem? ht))
    have hle : a ≤ wSs l := by
     have h1 : loopSs (l.take i) ≤ loopSs l := by
      have : ∀ (l : List St) (i : Nat), loopSs (l.take i) ≤ loopSs l := by
       intro l
       induction l with
       | nil => intro i; simp
       | cons x l ih => intro i; cases i with
        | zero => simp [loopSs]
        | succ i => rw [List.take_succ_cons, loopSs, loopSs]; have := ih i; omega
      exact this l i
     rw [HA.out]; have := loopSs_le l; omega
    obtain ⟨k, name, place, expr, tv, thn, ev, els⟩ := t'
    rw [wS] at hws
    rw [St.In] at hin'
    obtain ⟨_, _, htl, hts, hel, hes⟩ := hin'
    have y0 : wr.cell? ⟨b, off + i * 14, none⟩ = some (.int .i64 k) := hx' 0 _ rfl
    have y12 : wr.cell? ⟨b, off + i * 14 + 12, none⟩ = some tv := hx' 12 _ (St.cells_tv ..)
    have y13 : wr.cell? ⟨b, off + i * 14 + 13, none⟩ = some ev := hx' 13 _ (St.cells_ev ..)
    have hT := loopSs_le thn
    have hE := loopSs_le els
    have c1 := fun d os => Calls.regrown_of (ih (wSs thn) (by omega) thn (grow (redrawn wr d) os) tv (Nat.le_refl _) (by omega) (htl.keep (Keeps.of_below (below_regrown wr d os))) (St.Ins.keep (Keeps.of_below (below_regrown wr d os)) thn hts))
    have c2 := fun d os => Calls.regrown_of (ih (wSs els) (by omega) els (grow (redrawn wr d) os) ev (Nat.le_refl _) (by omega) (hel.keep (Keeps.of_below (below_regrown wr d os))) (St.Ins.keep (Keeps.of_below (below_regrown wr d os)) els hes))
    rw [loopS] at hsn
    generalize loopSs thn = T at *
    generalize loopSs els = E at *
    have c3 := fun d os => Calls.regrown_of ((rmore_any T E (grow (redrawn wr d) os)).mono fun e w' ⟨h1, h2⟩ => ⟨h1, below_of_eq h2⟩)
    have k12 := cell_regrown y12
    have k13 := cell_regrown y13
    have C1 := hid c1
    have C2 := hid c2
    have C3 := hid c3
    have HN := hid hsn
    clear hx hx' ht c1 c2 c3 hsn ih htl hts hel hes y12 y13
    go_wp2_with fail
    refine wp_region_quiet_below (by kernel_rfl) (by kernel_rfl) ?_
    repeat (go_big_quiet_step (first | (with_reducible exact C1.out _ _) | (with_reducible exact C2.out _ _) | (with_reducible exact C3.out _ _)))
    refine wpQuiet_nil ?_
    intro _ hw'
    obtain ⟨⟨dq, osq⟩, hw''⟩ := hw'
    subst hw''
    have hb1 := hb.trans ((below_regrown wr dq osq).mono hb.size)
    have CM := hid (fun (q : Nat) W => rmore_any a q W)
    have y0' := cell_regrown y0 dq osq
    clear y0
    by_cases k4 : k = 4
    ·subst k4
     go_wp2_with fail
     refine (CM.out (max T E + 1) _).mono ?_
     rintro e W2 ⟨rfl, rfl⟩
     go_wp2_with fail
     go_roundg (gk - 1)
     case measure => omega
     case rel => exact ⟨i + 1, _, rfl, by go_num, by omega, by omega, hid (by rw [HN.out, HA.out]; rfl), hb1⟩
    ·go_wp2_with fail
     refine (CM.out (max T E) _).mono ?_
     rintro e W2 ⟨rfl, rfl⟩
     go_wp2_with fail
     go_roundg (gk - 1)
     case measure => omega
     case rel => exact ⟨i + 1, _, rfl, by go_num, by omega, by omega, hid (by rw [HN.out, HA.out, if_neg k4]; rfl), hb1⟩
   ·obtain rfl : i = L := by omega
    clear ih
    go_wp2_with fail
    go_ret
    exact ⟨ret_nat (by rw [HA.out, ← HL.out, List.take_length, HR.out]), hb⟩
end Go.Proofs.YtemflcojebanlaaGreatDoor.TreeC
