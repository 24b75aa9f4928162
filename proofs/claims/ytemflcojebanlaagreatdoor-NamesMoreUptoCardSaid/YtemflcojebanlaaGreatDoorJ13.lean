/- Texts joined: TreeTK, TreeRB, TreeRD. -/
import Derived.Test.YtemflcojebanlaaGreatDoorJ07
import Derived.Test.YtemflcojebanlaaGreatDoorJ12
import Derived.Test.YtemflcojebanlaaGreatDoorJ03
/- Contract of tree.loops. -/
namespace Go.Proofs.YtemflcojebanlaaGreatDoor.TreeC
open Go Go.RowKit Go.Lib Go.Sort LexP TreeP LexC

theorem loopSs_take : ∀ (l : List St) (i : Nat), loopSs (l.take i) ≤ loopSs l
 | [], i => by simp
 | x :: l, 0 => by simp [loopSs]
 | x :: l, i + 1 => by rw [List.take_succ_cons, loopSs, loopSs]; have := loopSs_take l i; omega
set_option maxHeartbeats 8000000 in
set_option maxRecDepth 100000 in
theorem loops_any : ∀ (n : Nat) (l : List St) (w : World) (v : Value), wSs l ≤ n → n ≤ 1048576 → Lies w 14 v (l.map St.cells) → St.Ins w l →
  Calls Tryz.prog 74 #[v] w fun r w' => r = .returned (.int .i64 (loopSs l : Int)) ∧ Below w.heap.size w w' := by
 intro n
 induction n using Nat.strongRecOn with
 | ind n ih =>
  intro l w v hw hn hl hin
  have hlen := wSs_len l
  obtain ⟨p, cap, rfl, hcap, hx⟩ := id hl
  rw [List.length_map] at *
  obtain ⟨R, hR⟩ : ∃ R, loopSs l = R := ⟨_, rfl⟩
  rw [hR]
  generalize hL : l.length = L at *
  have HR := hid hR
  have HL := hid hL
  have HX := hid hl
  have HI := hid hin
  clear hx hL hl hin hR
  go_enter Tryz.func74, Tryz.ntmps74
  go_wp2_with fail
  go_loopg [3, 9] L (fun gf u v wx => ∃ i a : Nat, u = .int .i64 (a : Int) ∧ v = .int .i64 (i : Int) ∧ i ≤ L ∧ L ≤ i + gf ∧ Hid (a = loopSs (l.take i)) ∧ Hid (Below w.heap.size w wx))
  case atStart => exact ⟨0, 0, rfl, rfl, by omega, by omega, hid (by simp [loopSs]), hid (Below.refl _ _)⟩
  case round =>
   obtain ⟨i, a, rfl, rfl, hi, hg, HA, HB⟩ := hrel
   have hb := HB.out
   by_cases hlt : i < L
   ·obtain ⟨t', ht⟩ : ∃ t', l[i]? = some t' := ⟨l[i]'(by rw [HL.out]; exact hlt), List.getElem?_eq_getElem _⟩
    obtain ⟨b, off, cap', e, _, hx⟩ := Lies.at (HX.out.keep (Keeps.of_below hb)) (i := i) (by rw [List.length_map, HL.out]; exact hlt)
    injection e with e1 e2 e3
    subst e1
    clear e2 e3
    have hx' := hx i t'.cells (by rw [List.getElem?_map, ht]; rfl)
    have hsn := loopSs_snoc l i t' ht
    have hws := wSs_get l i t' ht
    have hin' := St.In.keep (Keeps.of_below hb) t' ((St.ins_iff w l).1 HI.out t' (List.mem_of_getElem? ht))
    have hle : a ≤ wSs l := by rw [HA.out]; exact Nat.le_trans (loopSs_take l i) (loopSs_le l)
    have ho := st_ones hin'
    unfold Ones at ho
    have hz := stSize t'
    obtain ⟨k, name, place, expr, tv, thn, ev, els⟩ := t'
    rw [wS] at hws
    rw [St.In] at hin'
    obtain ⟨_, _, htl, hts, hel, hes⟩ := hin'
    have y0 : (St.mk k name place expr tv thn ev els).cells[0]? = some (.int .i64 k) := rfl
    have y12 : (St.mk k name place expr tv thn ev els).cells[12]? = some tv := St.cells_tv ..
    have y13 : (St.mk k name place expr tv thn ev els).cells[13]? = some ev := St.cells_ev ..
    have hT := loopSs_le thn
    have hE := loopSs_le els
    have c1 := fun (W : World) (hb2 : Below wr.heap.size wr W) d os => Calls.regrown_of (ih (wSs thn) (by omega) thn (grow (redrawn W d) os) tv (Nat.le_refl _) (by omega) (htl.keep (Keeps.of_below (hb2.trans ((below_regrown W d os).mono hb2.size)))) (St.Ins.keep (Keeps.of_below (hb2.trans ((below_regrown W d os).mono hb2.size))) thn hts))
    have c2 := fun (W : World) (hb2 : Below wr.heap.size wr W) d os => Calls.regrown_of (ih (wSs els) (by omega) els (grow (redrawn W d) os) ev (Nat.le_refl _) (by omega) (hel.keep (Keeps.of_below (hb2.trans ((below_regrown W d os).mono hb2.size)))) (St.Ins.keep (Keeps.of_below (hb2.trans ((below_regrown W d os).mono hb2.size))) els hes))
    rw [loopS] at hsn
    generalize loopSs thn = T at *
    generalize loopSs els = E at *
    generalize (St.mk k name place expr tv thn ev els).cells = fcs at *
    have C1 := hid c1
    have C2 := hid c2
    have HN := hid hsn
    have HC := hid hx'
    have HY := hid (And.intro y0 (And.intro y12 y13))
    have ZF := hid hz
    have ZA : Hid ((Tryz.prog.info? 68).map (·.size) = some fcs.toArray.size) := hid (by rw [List.size_toArray]; exact hz)
    have ZO : Hid ((#[.int .i64 0, .string ⟨#[]⟩, .int .i64 0, .int .i64 0, .string ⟨#[]⟩, .bool false, .slice none 0 0, .int .i64 0, .int .i64 0, .string ⟨#[]⟩, .bool false, .slice none 0 0, .slice none 0 0, .slice none 0 0] : Array Value).size = fcs.toArray.size) := hid (by
     rw [show (Tryz.prog.info? 68).map (·.size) = some 14 by kernel_rfl] at hz
     exact Option.some.inj hz)
    have H1C := hid ho
    clear hx hx' ht c1 c2 hsn ih htl hts hel hes y0 y12 y13 hz ho hb
    go_wp2_with (first | (with_reducible refine wpList_load_at (o := ⟨some 12, _, _, _, _, _⟩) rfl _ _ rfl b (off + i * 14) rfl fcs _ HC.out Tryz.underlying68 rfl ZF.out ?_) | (with_reducible refine wpList_store_row (o := ⟨none, _, _, _, _, _⟩) rfl _ _ _ rfl wr.heap.size fcs.toArray rfl rfl _ _ (heap_alloc_new _ _) ZA.out ZO.out H1C.out ?_))
    generalize hW2 : (World.alloc wr _).setRow _ _ = W2
    have hb2 : Below wr.heap.size wr W2 := by rw [← hW2]; exact rowed_below' _ _ _
    have hX2 : BoxAt W2 wr.heap.size fcs := by rw [← hW2]; exact rowed_box' _ _ _ _
    have y0 := box_get hX2 HY.out.1
    have k12 := cell_regrown (box_get hX2 HY.out.2.1)
    have k13 := cell_regrown (box_get hX2 HY.out.2.2)
    have D1 := hid (C1.out W2 hb2)
    have D2 := hid (C2.out W2 hb2)
    have B2 := hid (HB.out.trans (hb2.mono HB.out.size))
    clear C1 C2 hW2 hb2 hX2 HB HC HX HI ZF ZA ZO H1C
    simp only [Act.put]
    refine wp_region_quiet_below (by kernel_rfl) (by kernel_rfl) ?_
    repeat (go_big_quiet_step (first | (with_reducible exact D1.out _ _) | (with_reducible exact D2.out _ _)))
    refine wpQuiet_nil ?_
    intro _ hw'
    obtain ⟨⟨dq, osq⟩, hw''⟩ := hw'
    subst hw''
    have hb1 := hid (B2.out.trans ((below_regrown W2 dq osq).mono B2.out.size))
    have y0' := cell_regrown y0 dq osq
    clear y0
    obtain ⟨M, hM, hM'⟩ : ∃ M : Nat, max (T : Int) (E : Int) = (M : Int) ∧ M = max T E := ⟨max T E, by omega, rfl⟩
    have hMb : M ≤ 1048576 := by omega
    rw [hM]
    have HM := hid hM'
    clear hM hM' k12 k13 D1 D2
    by_cases k4 : k = 4
    ·subst k4
     have K : Hid (max a (M + 1) = loopSs (l.take (i + 1))) := hid (by rw [HN.out, HA.out, HM.out]; rfl)
     go_wp2_with fail
     go_roundg (gk - 1)
     case measure => omega
     case rel => exact ⟨i + 1, max a (M + 1), by rw [show ((max a (M + 1) : Nat) : Int) = max (a : Int) ((M : Int) + 1) by omega], by go_num, by omega, by omega, K, hb1⟩
    ·have K : Hid (max a M = loopSs (l.take (i + 1))) := hid (by rw [HN.out, HA.out, HM.out, if_neg k4]; rfl)
     go_wp2_with fail
     go_roundg (gk - 1)
     case measure => omega
     case rel => exact ⟨i + 1, max a M, by rw [show ((max a M : Nat) : Int) = max (a : Int) (M : Int) by omega], by go_num, by omega, by omega, K, hb1⟩
   ·obtain rfl : i = L := by omega
    clear ih
    go_wp2_with fail
    go_ret
    exact ⟨ret_nat (by rw [HA.out, ← HL.out, List.take_length, HR.out]), HB.out⟩
end Go.Proofs.YtemflcojebanlaaGreatDoor.TreeC
/- Contracts of lienbookref02's tests of types and expressions. -/
namespace Go.Proofs.YtemflcojebanlaaGreatDoor.TreeC
open Go Go.RowKit Go.Lib LexP TreeP LexC

set_option maxHeartbeats 2000000 in
set_option maxRecDepth 100000 in
theorem rRightT_any : ∀ (n : Nat) (t : Ty) (w : World), wT t ≤ n → n ≤ 1048576 → t.In w → Calls Tryz.prog 49 #[t.val] w fun r w' => r = .returned (.bool (rightT t)) ∧ Below w.heap.size w w' := by
 intro n
 induction n with
 | zero => intro t w h; obtain ⟨k, life, mt, v, kids⟩ := t; rw [wT] at h; omega
 | succ n ih =>
  intro t w hw hn hin
  obtain ⟨k, life, mt, v, kids⟩ := t
  rw [wT] at hw
  rw [Ty.In] at hin
  obtain ⟨hl, hk⟩ := hin
  have hlen := wTs_len kids
  have hnm := fun W => rName_any life W (by omega)
  obtain ⟨R, hR⟩ : ∃ R, rightT (.mk k life mt v kids) = R := ⟨_, rfl⟩
  rw [hR]
  rw [rightT] at hR
  simp only [Ty.val_mk]
  have hl' := hl
  obtain ⟨p, cap, rfl, hcap, hx⟩ := hl
  rw [List.length_map] at *
  generalize hL : kids.length = L at *
  have HS := hid hR
  have HL := hid hL
  have HK := hid hk
  have HX := hid hl'
  have CN := hid hnm
  clear hx hk hL hl' hnm hR
  go_enter Tryz.func49, Tryz.ntmps49
  go_wp2_with fail
  have hb0 : Below w.heap.size w (w.alloc (.cells #[.int .i64 k, .string life, .bool mt, .slice p L cap] 34 (0, 0))) := (Below.refl _ _).alloc (Nat.le_refl _) _
  have c0 := box_cell w [.int .i64 k, .string life, .bool mt, .slice p L cap] 34 0 _ rfl
  have c1 := box_cell w [.int .i64 k, .string life, .bool mt, .slice p L cap] 34 1 _ rfl
  have c2 := box_cell w [.int .i64 k, .string life, .bool mt, .slice p L cap] 34 2 _ rfl
  have c3 := box_cell w [.int .i64 k, .string life, .bool mt, .slice p L cap] 34 3 _ rfl
  generalize w.alloc _ = W1 at *
  go_loopg [3] L (fun gf v wx => ∃ i : Nat, v = .int .i64 (i : Int) ∧ i ≤ L ∧ L ≤ i + gf ∧ Hid (rightTs kids = rightTs (kids.drop i)) ∧ Below W1.heap.size W1 wx)
  case atStart => exact ⟨0, rfl, by omega, by omega, hid (by simp), Below.refl _ _⟩
  case round =>
   obtain ⟨i, rfl, hi, hg, HR, hb⟩ := hrel
   have d0 := later hb c0
   have d1 := later hb c1
   have d2 := later hb c2
   have d3 := later hb c3
   have hbw := hb0.trans (hb.mono hb0.size)
   by_cases hlt : i < L
   ·obtain ⟨t', ht⟩ : ∃ t', kids[i]? = some t' := ⟨kids[i]'(by rw [HL.out]; exact hlt), List.getElem?_eq_getElem _⟩
    obtain ⟨b, off, cap', e, _, hx⟩ := Lies.at (HX.out.keep (Keeps.of_below hbw)) (i := i) (by rw [List.length_map, HL.out]; exact hlt)
    injection e with e1 e2 e3
    subst e1
    clear e2 e3
    have hin' : t'.In wr := Ty.In.keep (Keeps.of_below hbw) t' ((Ty.ins_iff w kids).1 HK.out t' (List.mem_of_getElem? ht))
    have hw' := wTs_get kids i t' ht
    have hx' := hx i t'.cells (by rw [List.getElem?_map, ht]; rfl)
    have hr := rightTs_drop ht
    have cI := ih t' wr (by omega) (by omega) hin'
    obtain ⟨k', life', mt', v', kids'⟩ := t'
    unfold Ty.cells at hx'
    simp only [Ty.val_mk] at cI
    have x0 : wr.cell? ⟨b, off + i * 4, none⟩ = some (.int .i64 k') := hx' 0 _ rfl
    have x1 := hx' 1 _ rfl
    have x2 := hx' 2 _ rfl
    have x3 := hx' 3 _ rfl
    clear hx hx' ht hin'
    cases hrt : rightT (.mk k' life' mt' v' kids')
    ·rw [hrt] at cI hr
     have K : Hid (rightTs kids = false) := hid (by rw [HR.out, hr]; rfl)
     have CI := hid cI
     clear cI hr hrt
     go_wp2_with fail
     refine CI.out.mono ?_
     rintro e W2 ⟨rfl, hb2⟩
     go_wp2_with fail
     go_ret
     exact ⟨ret_bool (by rw [← HS.out, K.out]; rfl), hbw.trans (hb2.mono hbw.size)⟩
    ·rw [hrt] at cI hr
     have K : Hid (rightTs kids = rightTs (kids.drop (i + 1))) := hid (by rw [HR.out, hr]; rfl)
     have CI := hid cI
     clear cI hr hrt
     go_wp2_with fail
     refine CI.out.mono ?_
     rintro e W2 ⟨rfl, hb2⟩
     go_wp2_with fail
     go_roundg (gk - 1)
     case measure => omega
     case rel => exact ⟨i + 1, by go_num, by omega, by omega, K, hb.trans (hb2.mono hb.size)⟩
   ·obtain rfl : i = L := by omega
    have K : Hid (rightTs kids = true) := hid (by rw [HR.out, ← HL.out, List.drop_length]; rfl)
    clear HR
    by_cases hk4 : k = 4
    ·subst hk4
     cases hn4 : nameB (bs life)
     ·rw [hn4] at CN
      go_wp2_with fail
      refine (CN.out _).mono ?_
      rintro e W2 ⟨rfl, hb2⟩
      go_wp2_with fail
      go_ret
      exact ⟨ret_bool (by rw [← HS.out, K.out, hn4]; rfl), hbw.trans (hb2.mono hbw.size)⟩
     ·rw [hn4] at CN
      go_wp2_with fail
      refine (CN.out _).mono ?_
      rintro e W2 ⟨rfl, hb2⟩
      go_wp2_with fail
      go_ret
      exact ⟨ret_bool (by rw [← HS.out, K.out, hn4, Bool.eq_iff_iff]; simp; omega), hbw.trans (hb2.mono hbw.size)⟩
    ·go_wp2_with fail
     all_goals go_ret
     all_goals refine ⟨ret_bool ?_, hbw⟩
     all_goals rw [← HS.out, K.out]
     all_goals first | (simp [*, ← Lib.toList_data]; done) | (simp [*, ← Lib.toList_data]; omega) | (rw [Bool.eq_iff_iff]; simp [*, ← Lib.toList_data]; done) | (rw [Bool.eq_iff_iff]; simp [*, ← Lib.toList_data]; omega)

set_option maxHeartbeats 16000000 in
set_option maxRecDepth 100000 in
theorem rRightE_any : ∀ (n : Nat) (t : Ex) (w : World), wE t ≤ n → n ≤ 1048576 → t.In w → Calls Tryz.prog 53 #[t.val] w fun r w' => r = .returned (.bool (rightE t)) ∧ Below w.heap.size w w' := by
 intro n
 induction n with
 | zero => intro t w h; obtain ⟨k, num, name, mt, v, kids⟩ := t; rw [wE] at h; omega
 | succ n ih =>
  intro t w hw hn hin
  obtain ⟨k, num, name, mt, v, kids⟩ := t
  rw [wE] at hw
  rw [Ex.In] at hin
  obtain ⟨_, hl, hk⟩ := hin
  have hlen := wEs_len kids
  have hnm := fun W => rName_any name W (by omega)
  obtain ⟨R, hR⟩ : ∃ R, rightE (.mk k num name mt v kids) = R := ⟨_, rfl⟩
  rw [hR]
  rw [rightE] at hR
  simp only [Ex.val_mk]
  have hl' := hl
  obtain ⟨p, cap, rfl, hcap, hx⟩ := hl
  rw [List.length_map] at *
  generalize hL : kids.length = L at *
  have HS := hid hR
  have HL := hid hL
  have HK := hid hk
  have HX := hid hl'
  have CN := hid hnm
  clear hx hk hL hl' hnm hR
  go_enter Tryz.func53, Tryz.ntmps53
  go_wp2_with fail
  have hb0 : Below w.heap.size w (w.alloc (.cells #[.int .i64 k, .int .i64 num, .string name, .bool mt, .slice p L cap] 40 (0, 0))) := (Below.refl _ _).alloc (Nat.le_refl _) _
  have c0 := box_cell w [.int .i64 k, .int .i64 num, .string name, .bool mt, .slice p L cap] 40 0 _ rfl
  have c1 := box_cell w [.int .i64 k, .int .i64 num, .string name, .bool mt, .slice p L cap] 40 1 _ rfl
  have c2 := box_cell w [.int .i64 k, .int .i64 num, .string name, .bool mt, .slice p L cap] 40 2 _ rfl
  have c3 := box_cell w [.int .i64 k, .int .i64 num, .string name, .bool mt, .slice p L cap] 40 3 _ rfl
  have c4 := box_cell w [.int .i64 k, .int .i64 num, .string name, .bool mt, .slice p L cap] 40 4 _ rfl
  generalize w.alloc _ = W1 at *
  go_loopg [3] L (fun gf v wx => ∃ i : Nat, v = .int .i64 (i : Int) ∧ i ≤ L ∧ L ≤ i + gf ∧ Hid (rightEs kids = rightEs (kids.drop i)) ∧ Below W1.heap.size W1 wx)
  case atStart => exact ⟨0, rfl, by omega, by omega, hid (by simp), Below.refl _ _⟩
  case round =>
   obtain ⟨i, rfl, hi, hg, HR, hb⟩ := hrel
   have d0 := later hb c0
   have d1 := later hb c1
   have d2 := later hb c2
   have d3 := later hb c3
   have d4 := later hb c4
   have hbw := hb0.trans (hb.mono hb0.size)
   by_cases hlt : i < L
   ·obtain ⟨t', ht⟩ : ∃ t', kids[i]? = some t' := ⟨kids[i]'(by rw [HL.out]; exact hlt), List.getElem?_eq_getElem _⟩
    obtain ⟨b, off, cap', e, _, hx⟩ := Lies.at (HX.out.keep (Keeps.of_below hbw)) (i := i) (by rw [List.length_map, HL.out]; exact hlt)
    injection e with e1 e2 e3
    subst e1
    clear e2 e3
    have hin' : t'.In wr := Ex.In.keep (Keeps.of_below hbw) t' ((Ex.ins_iff w kids).1 HK.out t' (List.mem_of_getElem? ht))
    have hw' := wEs_get kids i t' ht
    have hx' := hx i t'.cells (by rw [List.getElem?_map, ht]; rfl)
    have hr := rightEs_drop ht
    have cI := ih t' wr (by omega) (by omega) hin'
    obtain ⟨k', num', name', mt', v', kids'⟩ := t'
    unfold Ex.cells at hx'
    simp only [Ex.val_mk] at cI
    have x0 : wr.cell? ⟨b, off + i * 5, none⟩ = some (.int .i64 k') := hx' 0 _ rfl
    have x1 := hx' 1 _ rfl
    have x2 := hx' 2 _ rfl
    have x3 := hx' 3 _ rfl
    have x4 := hx' 4 _ rfl
    clear hx hx' ht hin'
    cases hrt : rightE (.mk k' num' name' mt' v' kids')
    ·rw [hrt] at cI hr
     have K : Hid (rightEs kids = false) := hid (by rw [HR.out, hr]; rfl)
     have CI := hid cI
     clear cI hr hrt
     go_wp2_with fail
     refine CI.out.mono ?_
     rintro e W2 ⟨rfl, hb2⟩
     go_wp2_with fail
     go_ret
     exact ⟨ret_bool (by rw [← HS.out, K.out]; rfl), hbw.trans (hb2.mono hbw.size)⟩
    ·rw [hrt] at cI hr
     have K : Hid (rightEs kids = rightEs (kids.drop (i + 1))) := hid (by rw [HR.out, hr]; rfl)
     have CI := hid cI
     clear cI hr hrt
     go_wp2_with fail
     refine CI.out.mono ?_
     rintro e W2 ⟨rfl, hb2⟩
     go_wp2_with fail
     go_roundg (gk - 1)
     case measure => omega
     case rel => exact ⟨i + 1, by go_num, by omega, by omega, K, hb.trans (hb2.mono hb.size)⟩
   ·obtain rfl : i = L := by omega
    have K : Hid (rightEs kids = true) := hid (by rw [HR.out, ← HL.out, List.drop_length]; rfl)
    clear HR
    have HB : Hid (∀ W2 : World, Below wr.heap.size wr W2 → Below w.heap.size w W2) := hid (fun W2 h => hbw.trans (h.mono hbw.size))
    have fin : askE k num (bs name) mt i (kids.all Ex.place) = R := by rw [← HS.out, K.out, Bool.true_and]
    have HF := hid fin
    clear fin HS K
    by_cases h1 : k = 1
    ·subst h1
     go_wp2_with fail
     all_goals go_ret
     all_goals refine ⟨ret_bool ?_, hbw⟩
     all_goals rw [← HF.out]
     all_goals first | (simp [askE, *, ← Lib.toList_data]; done) | (simp [askE, *, ← Lib.toList_data]; omega) | (rw [Bool.eq_iff_iff]; simp [askE, *, ← Lib.toList_data]; done) | (rw [Bool.eq_iff_iff]; simp [askE, *, ← Lib.toList_data]; omega)
    by_cases h2 : k = 2
    ·subst h2
     cases hB : nameB (bs name) <;> rw [hB] at CN
     all_goals
      have HN := hid hB
      clear hB
      go_wp2_with (go_at_call 48; refine (CN.out _).mono ?_; rintro e W2 ⟨rfl, hb2⟩; have e3 := later hb2 d3; have e4 := later hb2 d4)
      all_goals go_ret
      all_goals refine ⟨ret_bool ?_, (by first | exact hbw | exact HB.out _ (by assumption))⟩
      all_goals rw [← HF.out]
      all_goals simp only [askE, HN.out]
      all_goals first | (simp [*]; done) | (simp [*]; omega) | (rw [Bool.eq_iff_iff]; simp [*]; done) | (rw [Bool.eq_iff_iff]; simp [*, ← Lib.toList_data]; omega)
    by_cases h3 : k = 3
    ·subst h3
     by_cases hL1 : i = 1
     ·obtain ⟨e0, he0⟩ : ∃ e0, kids = [e0] := List.length_eq_one_iff.1 (HL.out.trans hL1)
      subst he0
      subst hL1
      obtain ⟨b, off, cap', e, _, hx⟩ := Lies.at (HX.out.keep (Keeps.of_below hbw)) (i := 0) (by simp)
      injection e with e1 e2 e3
      subst e1
      clear e2 e3
      have hx' := hx 0 e0.cells rfl
      have cP := fun W => rPlace_any e0 W
      obtain ⟨P, hP⟩ : ∃ P, e0.place = P := ⟨_, rfl⟩
      have hall : ([e0].all Ex.place) = P := by rw [← hP]; simp
      rw [hall] at HF
      rw [hP] at cP
      clear hx hall hP
      obtain ⟨k', num', name', mt', v', kids'⟩ := e0
      unfold Ex.cells at hx'
      simp only [Ex.val_mk] at cP
      have x0 : wr.cell? ⟨b, off, none⟩ = some (.int .i64 k') := by simpa using hx' 0 _ rfl
      have x1 : wr.cell? ⟨b, off + 1, none⟩ = some (.int .i64 num') := by simpa using hx' 1 _ rfl
      have x2 : wr.cell? ⟨b, off + 2, none⟩ = some (.string name') := by simpa using hx' 2 _ rfl
      have x3 : wr.cell? ⟨b, off + 3, none⟩ = some (.bool mt') := by simpa using hx' 3 _ rfl
      have x4 : wr.cell? ⟨b, off + 4, none⟩ = some v' := by simpa using hx' 4 _ rfl
      have CP := hid cP
      clear hx' cP
      go_wp2_with (go_at_call 89; refine (CP.out _).mono ?_; rintro e W2 ⟨rfl, hb2⟩)
      all_goals go_ret
      all_goals refine ⟨ret_bool ?_, (by first | exact hbw | exact HB.out _ (by assumption))⟩
      all_goals rw [← HF.out]
      all_goals simp only [askE]
      all_goals first | (simp [*, ← Lib.toList_data]; done) | (simp [*, ← Lib.toList_data]; omega) | (rw [Bool.eq_iff_iff]; simp [*, ← Lib.toList_data]; done) | (rw [Bool.eq_iff_iff]; simp [*, ← Lib.toList_data]; omega)
     ·go_wp2_with fail
      all_goals go_ret
      all_goals refine ⟨ret_bool ?_, hbw⟩
      all_goals rw [← HF.out]
      all_goals simp only [askE]
      all_goals first | (simp [*, ← Lib.toList_data]; done) | (simp [*, ← Lib.toList_data]; omega) | (rw [Bool.eq_iff_iff]; simp [*, ← Lib.toList_data]; done) | (rw [Bool.eq_iff_iff]; simp [*, ← Lib.toList_data]; omega)
    by_cases h4 : k = 4
    ·subst h4
     by_cases hL1 : i = 1
     ·obtain ⟨e0, he0⟩ : ∃ e0, kids = [e0] := List.length_eq_one_iff.1 (HL.out.trans hL1)
      subst he0
      subst hL1
      obtain ⟨b, off, cap', e, _, hx⟩ := Lies.at (HX.out.keep (Keeps.of_below hbw)) (i := 0) (by simp)
      injection e with e1 e2 e3
      subst e1
      clear e2 e3
      have hx' := hx 0 e0.cells rfl
      have cP := fun W => rPlace_any e0 W
      obtain ⟨P, hP⟩ : ∃ P, e0.place = P := ⟨_, rfl⟩
      have hall : ([e0].all Ex.place) = P := by rw [← hP]; simp
      rw [hall] at HF
      rw [hP] at cP
      clear hx hall hP
      obtain ⟨k', num', name', mt', v', kids'⟩ := e0
      unfold Ex.cells at hx'
      simp only [Ex.val_mk] at cP
      have x0 : wr.cell? ⟨b, off, none⟩ = some (.int .i64 k') := by simpa using hx' 0 _ rfl
      have x1 : wr.cell? ⟨b, off + 1, none⟩ = some (.int .i64 num') := by simpa using hx' 1 _ rfl
      have x2 : wr.cell? ⟨b, off + 2, none⟩ = some (.string name') := by simpa using hx' 2 _ rfl
      have x3 : wr.cell? ⟨b, off + 3, none⟩ = some (.bool mt') := by simpa using hx' 3 _ rfl
      have x4 : wr.cell? ⟨b, off + 4, none⟩ = some v' := by simpa using hx' 4 _ rfl
      have CP := hid cP
      clear hx' cP
      go_wp2_with (go_at_call 89; refine (CP.out _).mono ?_; rintro e W2 ⟨rfl, hb2⟩)
      all_goals go_ret
      all_goals refine ⟨ret_bool ?_, (by first | exact hbw | exact HB.out _ (by assumption))⟩
      all_goals rw [← HF.out]
      all_goals simp only [askE]
      all_goals first | (simp [*, ← Lib.toList_data]; done) | (simp [*, ← Lib.toList_data]; omega) | (rw [Bool.eq_iff_iff]; simp [*, ← Lib.toList_data]; done) | (rw [Bool.eq_iff_iff]; simp [*, ← Lib.toList_data]; omega)
     ·go_wp2_with fail
      all_goals go_ret
      all_goals refine ⟨ret_bool ?_, hbw⟩
      all_goals rw [← HF.out]
      all_goals simp only [askE]
      all_goals first | (simp [*, ← Lib.toList_data]; done) | (simp [*, ← Lib.toList_data]; omega) | (rw [Bool.eq_iff_iff]; simp [*, ← Lib.toList_data]; done) | (rw [Bool.eq_iff_iff]; simp [*, ← Lib.toList_data]; omega)
    by_cases h5 : k = 5
    ·subst h5
     by_cases hL1 : i = 1
     ·obtain ⟨e0, he0⟩ : ∃ e0, kids = [e0] := List.length_eq_one_iff.1 (HL.out.trans hL1)
      subst he0
      subst hL1
      obtain ⟨b, off, cap', e, _, hx⟩ := Lies.at (HX.out.keep (Keeps.of_below hbw)) (i := 0) (by simp)
      injection e with e1 e2 e3
      subst e1
      clear e2 e3
      have hx' := hx 0 e0.cells rfl
      have cP := fun W => rPlace_any e0 W
      obtain ⟨P, hP⟩ : ∃ P, e0.place = P := ⟨_, rfl⟩
      have hall : ([e0].all Ex.place) = P := by rw [← hP]; simp
      rw [hall] at HF
      rw [hP] at cP
      clear hx hall hP
      obtain ⟨k', num', name', mt', v', kids'⟩ := e0
      unfold Ex.cells at hx'
      simp only [Ex.val_mk] at cP
      have x0 : wr.cell? ⟨b, off, none⟩ = some (.int .i64 k') := by simpa using hx' 0 _ rfl
      have x1 : wr.cell? ⟨b, off + 1, none⟩ = some (.int .i64 num') := by simpa using hx' 1 _ rfl
      have x2 : wr.cell? ⟨b, off + 2, none⟩ = some (.string name') := by simpa using hx' 2 _ rfl
      have x3 : wr.cell? ⟨b, off + 3, none⟩ = some (.bool mt') := by simpa using hx' 3 _ rfl
      have x4 : wr.cell? ⟨b, off + 4, none⟩ = some v' := by simpa using hx' 4 _ rfl
      have CP := hid cP
      clear hx' cP
      go_wp2_with (go_at_call 89; refine (CP.out _).mono ?_; rintro e W2 ⟨rfl, hb2⟩)
      all_goals go_ret
      all_goals refine ⟨ret_bool ?_, (by first | exact hbw | exact HB.out _ (by assumption))⟩
      all_goals rw [← HF.out]
      all_goals simp only [askE]
      all_goals first | (simp [*, ← Lib.toList_data]; done) | (simp [*, ← Lib.toList_data]; omega) | (rw [Bool.eq_iff_iff]; simp [*, ← Lib.toList_data]; done) | (rw [Bool.eq_iff_iff]; simp [*, ← Lib.toList_data]; omega)
     ·go_wp2_with fail
      all_goals go_ret
      all_goals refine ⟨ret_bool ?_, hbw⟩
      all_goals rw [← HF.out]
      all_goals simp only [askE]
      all_goals first | (simp [*, ← Lib.toList_data]; done) | (simp [*, ← Lib.toList_data]; omega) | (rw [Bool.eq_iff_iff]; simp [*, ← Lib.toList_data]; done) | (rw [Bool.eq_iff_iff]; simp [*, ← Lib.toList_data]; omega)
    by_cases h6 : k = 6
    ·subst h6
     go_wp2_with fail
     all_goals go_ret
     all_goals refine ⟨ret_bool ?_, hbw⟩
     all_goals rw [← HF.out]
     all_goals simp only [askE]
     all_goals first | (simp [*, ← Lib.toList_data]; done) | (simp [*, ← Lib.toList_data]; omega) | (rw [Bool.eq_iff_iff]; simp [*, ← Lib.toList_data]; done) | (rw [Bool.eq_iff_iff]; simp [*, ← Lib.toList_data]; omega)
    by_cases h7 : k = 7
    ·subst h7
     go_wp2_with fail
     all_goals go_ret
     all_goals refine ⟨ret_bool ?_, hbw⟩
     all_goals rw [← HF.out]
     all_goals simp only [askE]
     all_goals first | (simp [*, ← Lib.toList_data]; done) | (simp [*, ← Lib.toList_data]; omega) | (rw [Bool.eq_iff_iff]; simp [*, ← Lib.toList_data]; done) | (rw [Bool.eq_iff_iff]; simp [*, ← Lib.toList_data]; omega)
    by_cases h8 : k = 8
    ·subst h8
     by_cases hz : num = 0
     ·subst hz
      have cS := fun W => rStr_any (.mk 8 0 name mt (.slice p i cap) kids) W
      simp only [Ex.val_mk, Ex.str, Ex.kind, Ex.name] at cS
      obtain ⟨S, hS⟩ : ∃ S, strK 8 (bs name) = S := ⟨_, rfl⟩
      rw [hS] at cS
      have HSS := hid hS
      have CS := hid cS
      clear hS cS
      cases mt
      ·by_cases hL2 : i = 2
       ·subst hL2
        go_wp2_with fail
        with_reducible refine (CS.out _).mono ?_
        rintro e W2 ⟨rfl, hb2⟩
        go_wp2_with fail
        go_ret
        refine ⟨ret_bool ?_, HB.out _ hb2⟩
        rw [← HF.out]
        simp only [askE, HSS.out]
        first | (simp [*]; done) | (simp [*]; omega) | (rw [Bool.eq_iff_iff]; simp [*, ← Lib.toList_data]; done) | (rw [Bool.eq_iff_iff]; simp [*, ← Lib.toList_data]; omega)
       ·go_wp2_with fail
        all_goals go_ret
        all_goals refine ⟨ret_bool ?_, hbw⟩
        all_goals rw [← HF.out]
        all_goals simp only [askE, HSS.out]
        all_goals first | (simp [*]; done) | (simp [*, ← Lib.toList_data]; omega) | (rw [Bool.eq_iff_iff]; simp [*, ← Lib.toList_data]; done) | (rw [Bool.eq_iff_iff]; simp [*, ← Lib.toList_data]; omega)
      ·go_wp2_with fail
       all_goals go_ret
       all_goals refine ⟨ret_bool ?_, hbw⟩
       all_goals rw [← HF.out]
       all_goals simp only [askE, HSS.out]
       all_goals first | (simp [*]; done) | (simp [*, ← Lib.toList_data]; omega) | (rw [Bool.eq_iff_iff]; simp [*, ← Lib.toList_data]; done) | (rw [Bool.eq_iff_iff]; simp [*, ← Lib.toList_data]; omega)
     ·go_wp2_with fail
      all_goals go_ret
      all_goals refine ⟨ret_bool ?_, hbw⟩
      all_goals rw [← HF.out]
      all_goals simp only [askE]
      all_goals first | (simp [*, ← Lib.toList_data]; done) | (simp [*, ← Lib.toList_data]; omega) | (rw [Bool.eq_iff_iff]; simp [*, ← Lib.toList_data]; done) | (rw [Bool.eq_iff_iff]; simp [*, ← Lib.toList_data]; omega)
    by_cases h9 : k = 9
    ·subst h9
     obtain ⟨B, hB⟩ : ∃ B, nameB (bs name) = B := ⟨_, rfl⟩
     rw [hB] at CN
     have HN := hid hB
     clear hB
     go_wp2_with (go_at_call 48; refine (CN.out _).mono ?_; rintro e W2 ⟨rfl, hb2⟩)
     all_goals go_ret
     all_goals refine ⟨ret_bool ?_, (by first | exact hbw | exact HB.out _ (by assumption))⟩
     all_goals rw [← HF.out]
     all_goals simp only [askE, HN.out]
     all_goals first | (simp [*]; done) | (simp [*]; omega) | (rw [Bool.eq_iff_iff]; simp [*, ← Lib.toList_data]; done) | (rw [Bool.eq_iff_iff]; simp [*, ← Lib.toList_data]; omega)
    ·go_wp2_with fail
     all_goals go_ret
     all_goals refine ⟨ret_bool ?_, hbw⟩
     all_goals rw [← HF.out]
     all_goals simp [askE, *]
/- Contracts of lienbookref02's tests of a statement, of loops, of a function, of a program. -/

theorem BoxAt.get {w : World} {b : Nat} {cs : List Value} (h : BoxAt w b cs) {j : Nat} {u : Value} (hj : cs[j]? = some u) : w.cell? ⟨b, j, none⟩ = some u := h j u hj
set_option maxHeartbeats 8000000 in
set_option maxRecDepth 100000 in
theorem rRightS_any : ∀ (n : Nat) (s : St) (w : World), wS s ≤ n → n ≤ 1048576 → s.In w → TestS s w := by
 intro n
 induction n with
 | zero => intro s w h; obtain ⟨k, name, place, expr, tv, thn, ev, els⟩ := s; rw [wS] at h; omega
 | succ n ih =>
  intro s w hw hn hin
  obtain ⟨k, name, place, expr, tv, thn, ev, els⟩ := s
  rw [wS] at hw
  rw [St.In] at hin
  obtain ⟨hp, he, htl, hts, hel, hes⟩ := hin
  have hT := wSs_len thn
  have hE := wSs_len els
  have c1 : Hid (∀ W, Keeps w W → Calls Tryz.prog 53 #[.agg expr.cells.toArray] W fun r w' => r = .returned (.bool (rightE expr)) ∧ Below W.heap.size W w') := hid fun W k => rRightE_any _ expr W (Nat.le_refl _) (by omega) (Ex.In.keep k _ he)
  have c2 : Hid (∀ W, Keeps w W → Calls Tryz.prog 51 #[tv] W fun r w' => r = .returned (.bool (rightL thn)) ∧ Below W.heap.size W w') := hid fun W k => rStmts_of W tv thn (htl.keep k) (by omega) fun s' hs' W' k' => by
   obtain ⟨i, hi, e⟩ := List.mem_iff_getElem.1 hs'
   have := wSs_get thn i s' (by rw [List.getElem?_eq_getElem hi, e])
   exact ih s' W' (by omega) (by omega) (St.In.keep (k.trans k') s' ((St.ins_iff w thn).1 hts s' hs'))
  have c3 : Hid (∀ W, Keeps w W → Calls Tryz.prog 51 #[ev] W fun r w' => r = .returned (.bool (rightL els)) ∧ Below W.heap.size W w') := hid fun W k => rStmts_of W ev els (hel.keep k) (by omega) fun s' hs' W' k' => by
   obtain ⟨i, hi, e⟩ := List.mem_iff_getElem.1 hs'
   have := wSs_get els i s' (by rw [List.getElem?_eq_getElem hi, e])
   exact ih s' W' (by omega) (by omega) (St.In.keep (k.trans k') s' ((St.ins_iff w els).1 hes s' hs'))
  have c4 : Hid (∀ W, Calls Tryz.prog 116 #[.agg place.cells.toArray] W fun r w' => r = .returned (.bool place.none) ∧ Below W.heap.size W w') := hid fun W => by
   obtain ⟨pk, pn, pname, pm, pv, pkids⟩ := place
   rw [Ex.In] at hp
   obtain ⟨hr, ⟨p, cap, h1, h2, _⟩, _⟩ := hp
   rw [List.length_map] at h1
   exact rNone_any (.mk pk pn pname pm pv pkids) W p _ cap h1 rfl hr
  have c5 : Hid (∀ W, Calls Tryz.prog 48 #[.string name] W fun r w' => r = .returned (.bool (nameB (bs name))) ∧ Below W.heap.size W w') := hid fun W => rName_any name W (by omega)
  have c6 : Hid (∀ W, Calls Tryz.prog 89 #[.agg place.cells.toArray] W fun r w' => r = .returned (.bool place.place) ∧ Below W.heap.size W w') := hid fun W => rPlace_any place W
  have c7 : Hid (∀ W, Keeps w W → Calls Tryz.prog 53 #[.agg place.cells.toArray] W fun r w' => r = .returned (.bool (rightE place)) ∧ Below W.heap.size W w') := hid fun W k => rRightE_any _ place W (Nat.le_refl _) (by omega) (Ex.In.keep k _ hp)
  unfold TestS
  obtain ⟨R, hR⟩ : ∃ R, rightS (.mk k name place expr tv thn ev els) = R := ⟨_, rfl⟩
  rw [hR]
  rw [rightS] at hR
  change (rightE expr && rightL thn && rightL els && askS k (bs name) place thn.length els.length) = R at hR
  have HSz := hid (exSize expr)
  have HSp := hid (exSize place)
  have hX := fun (W : World) (T : TypeId) => BoxAt.new W (St.mk k name place expr tv thn ev els).cells T
  obtain ⟨tp, tcap, rfl, htc, _⟩ := htl
  obtain ⟨ep, ecap, rfl, hec, _⟩ := hel
  rw [List.length_map] at *
  generalize hLT : thn.length = LT at *
  generalize hLE : els.length = LE at *
  unfold askS at hR
  generalize rightE expr = E at *
  generalize rightL thn = T at *
  generalize rightL els = L at *
  generalize rightE place = PR at *
  generalize place.place = PP at *
  generalize place.none = PN at *
  generalize hnm : nameB (bs name) = NM at *
  have HS := hid hR
  clear hR hp he hts hes hLT hnm ih
  have y0 : (St.mk k name place expr (.slice tp LT tcap) thn (.slice ep LE ecap) els).cells[0]? = some (.int .i64 k) := rfl
  have y1 : (St.mk k name place expr (.slice tp LT tcap) thn (.slice ep LE ecap) els).cells[1]? = some (.string name) := rfl
  have y12 := St.cells_tv k name place expr (.slice tp LT tcap) (.slice ep LE ecap) thn els
  have y13 := St.cells_ev k name place expr (.slice tp LT tcap) (.slice ep LE ecap) thn els
  have yp : ∀ j u, place.cells[j]? = some u → (St.mk k name place expr (.slice tp LT tcap) thn (.slice ep LE ecap) els).cells[2 + j]? = some u := fun j u h => St.cells_place h
  have ye : ∀ j u, expr.cells[j]? = some u → (St.mk k name place expr (.slice tp LT tcap) thn (.slice ep LE ecap) els).cells[7 + j]? = some u := fun j u h => St.cells_expr h
  unfold St.val
  rw [show (List.map St.cells els).length = LE by rw [List.length_map]; exact hLE] at *
  clear hX
  generalize (St.mk k name place expr (.slice tp LT tcap) thn (.slice ep LE ecap) els).cells = cs at *
  have HY := hid (And.intro y0 (And.intro y1 (And.intro y12 (And.intro y13 (And.intro yp ye)))))
  clear y0 y1 y12 y13 yp ye
  have B0 : Below w.heap.size w (w.alloc (.cells cs.toArray 68 (0, 0))) := (Below.refl _ _).alloc (Nat.le_refl _) _
  have X0 : Hid (BoxAt (w.alloc (.cells cs.toArray 68 (0, 0))) w.heap.size cs) := hid (BoxAt.new _ _ _)
  go_enter Tryz.func88, Tryz.ntmps88
  go_wp2_with (with_reducible refine wpList_load_at (o := ⟨some 6, _, _, _, _, _⟩) rfl _ _ rfl w.heap.size 7 rfl expr.cells _ (fun j u h => BoxAt.get X0.out (HY.out.2.2.2.2.2 j u h)) Tryz.underlying40 rfl HSz.out ?_)
  refine (c1.out _ (Keeps.of_below B0)).mono ?_
  rintro e W1 ⟨rfl, hb1⟩
  have B1 : Below w.heap.size w W1 := B0.trans (hb1.mono B0.size)
  have X1 : Hid (BoxAt W1 w.heap.size cs) := hid (X0.out.later hb1)
  have d0 := X1.out 0 _ HY.out.1
  have d1 := X1.out 1 _ HY.out.2.1
  have d12 := X1.out 12 _ HY.out.2.2.1
  have d13 := X1.out 13 _ HY.out.2.2.2.1
  clear hb1
  cases E
  ·go_wp2_with fail
   go_ret
   exact ⟨ret_bool (by rw [← HS.out]; first | rfl | (simp [*, ← Lib.toList_data]; done) | (rw [Bool.eq_iff_iff]; simp [*, ← Lib.toList_data]; done) | (rw [Bool.eq_iff_iff]; simp [*, ← Lib.toList_data]; omega)), B1⟩
  go_wp2_with fail
  clear d0 d1 d12 d13
  refine (c2.out _ (Keeps.of_below B1)).mono ?_
  rintro e W2 ⟨rfl, hb2⟩
  have B2 : Below w.heap.size w W2 := B1.trans (hb2.mono B1.size)
  have X2 : Hid (BoxAt W2 w.heap.size cs) := hid (X1.out.later hb2)
  have d0 := X2.out 0 _ HY.out.1
  have d1 := X2.out 1 _ HY.out.2.1
  have d12 := X2.out 12 _ HY.out.2.2.1
  have d13 := X2.out 13 _ HY.out.2.2.2.1
  clear hb2
  cases T
  ·go_wp2_with fail
   go_ret
   exact ⟨ret_bool (by rw [← HS.out]; first | rfl | (simp [*, ← Lib.toList_data]; done) | (rw [Bool.eq_iff_iff]; simp [*, ← Lib.toList_data]; done) | (rw [Bool.eq_iff_iff]; simp [*, ← Lib.toList_data]; omega)), B2⟩
  go_wp2_with fail
  clear d0 d1 d12 d13
  refine (c3.out _ (Keeps.of_below B2)).mono ?_
  rintro e W3 ⟨rfl, hb3⟩
  have B3 : Below w.heap.size w W3 := B2.trans (hb3.mono B2.size)
  have X3 : Hid (BoxAt W3 w.heap.size cs) := hid (X2.out.later hb3)
  have d0 := X3.out 0 _ HY.out.1
  have d1 := X3.out 1 _ HY.out.2.1
  have d12 := X3.out 12 _ HY.out.2.2.1
  have d13 := X3.out 13 _ HY.out.2.2.2.1
  clear hb3
  cases L
  ·go_wp2_with fail
   go_ret
   exact ⟨ret_bool (by rw [← HS.out]; first | rfl | (simp [*, ← Lib.toList_data]; done) | (rw [Bool.eq_iff_iff]; simp [*, ← Lib.toList_data]; done) | (rw [Bool.eq_iff_iff]; simp [*, ← Lib.toList_data]; omega)), B3⟩
  go_wp2_with (with_reducible refine wpList_load_at (o := ⟨some 25, _, _, _, _, _⟩) rfl _ _ rfl w.heap.size 2 rfl place.cells _ (fun j u h => BoxAt.get X3.out (HY.out.2.2.2.2.1 j u h)) Tryz.underlying40 rfl HSp.out ?_)
  clear d0 d1 d12 d13
  refine (c4.out _).mono ?_
  rintro e W4 ⟨rfl, hb4⟩
  have B4 : Below w.heap.size w W4 := B3.trans (hb4.mono B3.size)
  have X4 : Hid (BoxAt W4 w.heap.size cs) := hid (X3.out.later hb4)
  have d0 := X4.out 0 _ HY.out.1
  have d1 := X4.out 1 _ HY.out.2.1
  have d12 := X4.out 12 _ HY.out.2.2.1
  have d13 := X4.out 13 _ HY.out.2.2.2.1
  clear hb4
  clear B0 B1 B2 X0 X1 X2 c1 c2 c3 c4
  by_cases k1 : k = 1
  ·subst k1
   go_wp2_with fail
   clear d0 d1 d12 d13
   refine (c5.out _).mono ?_
   rintro e W5 ⟨rfl, hb5⟩
   have B5 : Below w.heap.size w W5 := B4.trans (hb5.mono B4.size)
   have X5 : Hid (BoxAt W5 w.heap.size cs) := hid (X4.out.later hb5)
   have d0 := X5.out 0 _ HY.out.1
   have d1 := X5.out 1 _ HY.out.2.1
   have d12 := X5.out 12 _ HY.out.2.2.1
   have d13 := X5.out 13 _ HY.out.2.2.2.1
   clear hb5
   cases NM
   ·go_wp2_with fail
    go_ret
    exact ⟨ret_bool (by rw [← HS.out]; first | rfl | (simp [*, ← Lib.toList_data]; done) | (rw [Bool.eq_iff_iff]; simp [*, ← Lib.toList_data]; done) | (rw [Bool.eq_iff_iff]; simp [*, ← Lib.toList_data]; omega)), B5⟩
   cases PN
   ·go_wp2_with fail
    go_ret
    exact ⟨ret_bool (by rw [← HS.out]; first | rfl | (simp [*, ← Lib.toList_data]; done) | (rw [Bool.eq_iff_iff]; simp [*, ← Lib.toList_data]; done) | (rw [Bool.eq_iff_iff]; simp [*, ← Lib.toList_data]; omega)), B5⟩
   go_wp2_with fail
   go_ret
   exact ⟨ret_bool (by rw [← HS.out]; first | rfl | (simp [*]; done) | (rw [Bool.eq_iff_iff]; simp [*]; done) | (rw [Bool.eq_iff_iff]; simp [*]; omega)), B5⟩
  by_cases k2 : k = 2
  ·subst k2
   cases hq : name.toList.isEmpty
   ·go_wp2_with fail
    go_ret
    exact ⟨ret_bool (by rw [← HS.out]; first | rfl | (simp [*, ← Lib.toList_data]; done) | (rw [Bool.eq_iff_iff]; simp [*, ← Lib.toList_data]; done) | (rw [Bool.eq_iff_iff]; simp [*, ← Lib.toList_data]; omega)), B4⟩
   go_wp2_with (with_reducible refine wpList_load_at (o := ⟨some 52, _, _, _, _, _⟩) rfl _ _ rfl w.heap.size 2 rfl place.cells _ (fun j u h => BoxAt.get X4.out (HY.out.2.2.2.2.1 j u h)) Tryz.underlying40 rfl HSp.out ?_)
   clear d0 d1 d12 d13
   refine (c6.out _).mono ?_
   rintro e W6 ⟨rfl, hb6⟩
   have B6 : Below w.heap.size w W6 := B4.trans (hb6.mono B4.size)
   have X6 : Hid (BoxAt W6 w.heap.size cs) := hid (X4.out.later hb6)
   have d0 := X6.out 0 _ HY.out.1
   have d1 := X6.out 1 _ HY.out.2.1
   have d12 := X6.out 12 _ HY.out.2.2.1
   have d13 := X6.out 13 _ HY.out.2.2.2.1
   clear hb6
   cases PP
   ·go_wp2_with fail
    go_ret
    exact ⟨ret_bool (by rw [← HS.out]; first | rfl | (simp [*, ← Lib.toList_data]; done) | (rw [Bool.eq_iff_iff]; simp [*, ← Lib.toList_data]; done) | (rw [Bool.eq_iff_iff]; simp [*, ← Lib.toList_data]; omega)), B6⟩
   go_wp2_with (with_reducible refine wpList_load_at (o := ⟨some 57, _, _, _, _, _⟩) rfl _ _ rfl w.heap.size 2 rfl place.cells _ (fun j u h => BoxAt.get X6.out (HY.out.2.2.2.2.1 j u h)) Tryz.underlying40 rfl HSp.out ?_)
   clear d0 d1 d12 d13
   refine (c7.out _ (Keeps.of_below B6)).mono ?_
   rintro e W7 ⟨rfl, hb7⟩
   have B7 : Below w.heap.size w W7 := B6.trans (hb7.mono B6.size)
   have X7 : Hid (BoxAt W7 w.heap.size cs) := hid (X6.out.later hb7)
   have d0 := X7.out 0 _ HY.out.1
   have d1 := X7.out 1 _ HY.out.2.1
   have d12 := X7.out 12 _ HY.out.2.2.1
   have d13 := X7.out 13 _ HY.out.2.2.2.1
   clear hb7
   cases PR
   ·go_wp2_with fail
    go_ret
    exact ⟨ret_bool (by rw [← HS.out]; first | rfl | (simp [*, ← Lib.toList_data]; done) | (rw [Bool.eq_iff_iff]; simp [*, ← Lib.toList_data]; done) | (rw [Bool.eq_iff_iff]; simp [*, ← Lib.toList_data]; omega)), B7⟩
   go_wp2_with fail
   go_ret
   exact ⟨ret_bool (by rw [← HS.out]; first | rfl | (simp [*, ← Lib.toList_data]; done) | (rw [Bool.eq_iff_iff]; simp [*, ← Lib.toList_data]; done) | (rw [Bool.eq_iff_iff]; simp [*, ← Lib.toList_data]; omega)), B7⟩
  by_cases k3 : k = 3
  ·subst k3
   cases PN
   ·go_wp2_with fail
    all_goals go_ret
    all_goals exact ⟨ret_bool (by rw [← HS.out]; first | rfl | (simp [*, ← Lib.toList_data]; done) | (rw [Bool.eq_iff_iff]; simp [*, ← Lib.toList_data]; done) | (rw [Bool.eq_iff_iff]; simp [*, ← Lib.toList_data]; omega)), B4⟩
   go_wp2_with fail
   all_goals go_ret
   all_goals exact ⟨ret_bool (by rw [← HS.out]; first | rfl | (simp [*, ← Lib.toList_data]; done) | (rw [Bool.eq_iff_iff]; simp [*, ← Lib.toList_data]; done) | (rw [Bool.eq_iff_iff]; simp [*, ← Lib.toList_data]; omega)), B4⟩
  by_cases k4 : k = 4
  ·subst k4
   cases PN
   ·go_wp2_with fail
    all_goals go_ret
    all_goals exact ⟨ret_bool (by rw [← HS.out]; first | rfl | (simp [*, ← Lib.toList_data]; done) | (rw [Bool.eq_iff_iff]; simp [*, ← Lib.toList_data]; done) | (rw [Bool.eq_iff_iff]; simp [*, ← Lib.toList_data]; omega)), B4⟩
   go_wp2_with fail
   all_goals go_ret
   all_goals exact ⟨ret_bool (by rw [← HS.out]; first | rfl | (simp [*, ← Lib.toList_data]; done) | (rw [Bool.eq_iff_iff]; simp [*, ← Lib.toList_data]; done) | (rw [Bool.eq_iff_iff]; simp [*, ← Lib.toList_data]; omega)), B4⟩
  go_wp2_with fail
  go_ret
  exact ⟨ret_bool (by rw [← HS.out]; first | rfl | (simp [*]; done) | (rw [Bool.eq_iff_iff]; simp [*, ← Lib.toList_data]; done) | (rw [Bool.eq_iff_iff]; simp [*, ← Lib.toList_data]; omega)), B4⟩
end Go.Proofs.YtemflcojebanlaaGreatDoor.TreeC
