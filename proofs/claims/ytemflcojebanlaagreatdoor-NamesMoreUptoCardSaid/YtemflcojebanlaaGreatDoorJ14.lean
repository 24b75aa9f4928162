/- Texts joined: TreeRJ, TreeTL, TreeTQ. -/
import Derived.Test.YtemflcojebanlaaGreatDoorJ13
import Derived.Test.YtemflcojebanlaaGreatDoorJ12
import Derived.Test.YtemflcojebanlaaGreatDoorJ10
/- Contracts of lienbookref02's test of a function, of a program; how deep a program is. -/
namespace Go.Proofs.YtemflcojebanlaaGreatDoor.TreeC
open Go Go.RowKit Go.Lib Go.Sort LexP TreeP LexC

theorem Fn.cells_gives {f : TreeP.Fn} {j : Nat} {u : Value} (h : f.gives.cells[j]? = some u) : (TreeP.Fn.cells f)[3 + j]? = some u := by
 obtain ⟨a, b, b1, b2, b3, ⟨c1, c2, c3, c4, c5⟩, d1, d2, d3, d4, ⟨e1, e2, e3, e4, e5, e6⟩⟩ := f
 match j, h with
 | 0, h => exact h
 | 1, h => exact h
 | 2, h => exact h
 | 3, h => exact h
 | j + 4, h => simp [Ty.cells] at h
theorem Fn.cells_value {f : TreeP.Fn} {j : Nat} {u : Value} (h : f.value.cells[j]? = some u) : (TreeP.Fn.cells f)[9 + j]? = some u := by
 obtain ⟨a, b, b1, b2, b3, ⟨c1, c2, c3, c4, c5⟩, d1, d2, d3, d4, ⟨e1, e2, e3, e4, e5, e6⟩⟩ := f
 match j, h with
 | 0, h => exact h
 | 1, h => exact h
 | 2, h => exact h
 | 3, h => exact h
 | 4, h => exact h
 | j + 5, h => simp [Ex.cells] at h
theorem Fn.cells_one (f : TreeP.Fn) : (TreeP.Fn.cells f)[0]? = some (.string f.name) ∧ (TreeP.Fn.cells f)[1]? = some f.livesV ∧ (TreeP.Fn.cells f)[2]? = some f.parsV ∧ (TreeP.Fn.cells f)[7]? = some f.outsV ∧ (TreeP.Fn.cells f)[8]? = some f.bodyV := by
 obtain ⟨a, b, b1, b2, b3, ⟨c1, c2, c3, c4, c5⟩, d1, d2, d3, d4, ⟨e1, e2, e3, e4, e5, e6⟩⟩ := f
 exact ⟨rfl, rfl, rfl, rfl, rfl⟩
theorem Pa.cells_type {p : Pa} {j : Nat} {u : Value} (h : p.type.cells[j]? = some u) : (Pa.cells p)[1 + j]? = some u := by
 obtain ⟨a, ⟨c1, c2, c3, c4, c5⟩⟩ := p
 match j, h with
 | 0, h => exact h
 | 1, h => exact h
 | 2, h => exact h
 | 3, h => exact h
 | j + 4, h => simp [Ty.cells] at h

set_option maxHeartbeats 8000000 in
set_option maxRecDepth 100000 in
theorem rRightF_any (f : TreeP.Fn) (w : World) (hw : wF f ≤ 1048576) (hin : f.In w) : Calls Tryz.prog 30 #[f.val] w fun r w' => r = .returned (.bool (rightF f)) ∧ Below w.heap.size w w' := by
 obtain ⟨iL, ⟨iP, iPs⟩, iG, iO, ⟨iB, iBs⟩, iV⟩ := hin
 obtain ⟨z0, z1, z2, z7, z8⟩ := Fn.cells_one f
 have zg : ∀ j u, f.gives.cells[j]? = some u → (TreeP.Fn.cells f)[3 + j]? = some u := fun j u h => Fn.cells_gives h
 have zv : ∀ j u, f.value.cells[j]? = some u → (TreeP.Fn.cells f)[9 + j]? = some u := fun j u h => Fn.cells_value h
 unfold wF at hw
 have hP := wPas_len f.pars
 have hO := wNs_len f.outs
 have hlb := loopSs_le f.body
 have hsb := wSs_len f.body
 have c1 : Hid (∀ W, Calls Tryz.prog 48 #[.string f.name] W fun r w' => r = .returned (.bool (nameB (bs f.name))) ∧ Below W.heap.size W w') := hid fun W => rName_any f.name W (by omega)
 have c2 : Hid (∀ W, Keeps w W → Calls Tryz.prog 50 #[f.livesV] W fun r w' => r = .returned (.bool (namesB f.lives)) ∧ Below W.heap.size W w') := hid fun W k => rNames_any W f.livesV f.lives (iL.keep k) (by omega)
 have c3 : Hid (∀ W, Keeps w W → Calls Tryz.prog 49 #[.agg f.gives.cells.toArray] W fun r w' => r = .returned (.bool (rightT f.gives)) ∧ Below W.heap.size W w') := hid fun W k => rRightT_any _ f.gives W (Nat.le_refl _) (by omega) (Ty.In.keep k _ iG)
 have c4 : Hid (∀ W, Keeps w W → Calls Tryz.prog 50 #[f.outsV] W fun r w' => r = .returned (.bool (namesB f.outs)) ∧ Below W.heap.size W w') := hid fun W k => rNames_any W f.outsV f.outs (iO.keep k) (by omega)
 have c5 : Hid (∀ W, Keeps w W → Calls Tryz.prog 51 #[f.bodyV] W fun r w' => r = .returned (.bool (rightL f.body)) ∧ Below W.heap.size W w') := hid fun W k => rStmts_of W f.bodyV f.body (iB.keep k) (by omega) fun s' hs' W' k' => by
   obtain ⟨i, hi, e⟩ := List.mem_iff_getElem.1 hs'
   have := wSs_get f.body i s' (by rw [List.getElem?_eq_getElem hi, e])
   exact rRightS_any _ s' W' (Nat.le_refl _) (by omega) (St.In.keep (k.trans k') s' ((St.ins_iff w f.body).1 iBs s' hs'))
 have c6 : Hid (∀ W, Keeps w W → Calls Tryz.prog 52 #[f.bodyV] W fun r w' => r = .returned (.int .i64 (loopSs f.body : Int)) ∧ Below W.heap.size W w') := hid fun W k => rloops_any _ f.body W f.bodyV (Nat.le_refl _) (by omega) (iB.keep k) (St.Ins.keep k _ iBs)
 have c7 : Hid (∀ W, Keeps w W → Calls Tryz.prog 53 #[.agg f.value.cells.toArray] W fun r w' => r = .returned (.bool (rightE f.value)) ∧ Below W.heap.size W w') := hid fun W k => rRightE_any _ f.value W (Nat.le_refl _) (by omega) (Ex.In.keep k _ iV)
 have c8 : Hid (∀ (i : Nat) (p : Pa), f.pars[i]? = some p → ∀ W, Keeps w W → Calls Tryz.prog 49 #[.agg p.type.cells.toArray] W fun r w' => r = .returned (.bool (rightT p.type)) ∧ Below W.heap.size W w') := hid fun i p hp W k => by
  have := wPas_get f.pars i p hp
  unfold wPa at this
  exact rRightT_any _ p.type W (Nat.le_refl _) (by omega) (Ty.In.keep k _ (iPs p (List.mem_of_getElem? hp)))
 have c9 : Hid (∀ (i : Nat) (p : Pa), f.pars[i]? = some p → ∀ W, Calls Tryz.prog 48 #[.string p.name] W fun r w' => r = .returned (.bool (nameB (bs p.name))) ∧ Below W.heap.size W w') := hid fun i p hp W => by
  have := wPas_get f.pars i p hp
  unfold wPa at this
  exact rName_any p.name W (by omega)
 obtain ⟨R, hR⟩ : ∃ R, rightF f = R := ⟨_, rfl⟩
 rw [hR]
 unfold rightF at hR
 obtain ⟨p, cap, hpv, hcap, _⟩ := id iP
 obtain ⟨op, ocap, hov, hocap, _⟩ := id iO
 rw [List.length_map] at *
 have SG := hid (tySize f.gives)
 have SV := hid (exSize f.value)
 unfold TreeP.Fn.val
 rw [hpv] at z2
 rw [hov] at z7
 rw [hov] at c4
 rw [hpv] at iP
 have HX := hid iP
 generalize hL : f.pars.length = L at *
 generalize hOL : f.outs.length = OL at *
 have hLb : L ≤ 1048576 := by omega
 have hOb : OL ≤ 1048576 := by omega
 generalize nameB (bs f.name) = b1 at *
 generalize namesB f.lives = b2 at *
 generalize rightT f.gives = b3 at *
 generalize namesB f.outs = b4 at *
 generalize rightL f.body = b5 at *
 generalize loopSs f.body = lb at *
 generalize rightE f.value = b7 at *
 generalize f.pars = pars at *
 generalize f.gives = gives at *
 generalize f.value = value at *
 generalize f.livesV = livesV at *
 generalize f.bodyV = bodyV at *
 generalize f.name = name at *
 generalize TreeP.Fn.cells f = cs at *
 have HS := hid hR
 have HL := hid hL
 have HY := hid (And.intro z0 (And.intro z1 (And.intro z2 (And.intro z7 (And.intro z8 (And.intro zg zv))))))
 clear hR hL hOL z0 z1 z2 z7 z8 zg zv iL iP iPs iG iO iB iBs iV hpv hov hw hO hsb
 have B0 := hid (show Below w.heap.size w (w.alloc (.cells cs.toArray 42 (0, 0))) from (Below.refl _ _).alloc (Nat.le_refl _) _)
 have X0 := hid (BoxAt.new w cs 42)
 go_enter Tryz.func30, Tryz.ntmps30
 go_wp2_with fail
 generalize w.alloc _ = W1 at *
 go_loopg [3] L (fun gf v wx => ∃ i : Nat, v = .int .i64 (i : Int) ∧ i ≤ L ∧ L ≤ i + gf ∧ Hid (pars.all rightPa = (pars.drop i).all rightPa) ∧ Hid (Below W1.heap.size W1 wx))
 case atStart => exact ⟨0, rfl, by omega, by omega, hid (by simp), hid (Below.refl _ _)⟩
 case round =>
  obtain ⟨i, rfl, hi, hg, HR, HB⟩ := hrel
  have hbw := hid (B0.out.trans (HB.out.mono B0.out.size))
  have XR := hid (X0.out.later HB.out)
  have d2 := box_get XR.out HY.out.2.2.1
  by_cases hlt : i < L
  ·obtain ⟨t', ht⟩ : ∃ t', pars[i]? = some t' := ⟨pars[i]'(by rw [HL.out]; exact hlt), List.getElem?_eq_getElem _⟩
   obtain ⟨b, off, cap', e, _, hx⟩ := Lies.at (HX.out.keep (Keeps.of_below hbw.out)) (i := i) (by rw [List.length_map, HL.out]; exact hlt)
   injection e with e1 e2 e3
   subst e1
   clear e2 e3
   have hx' : ∀ (j : Nat) (u : Value), (Pa.cells t')[j]? = some u → wr.cell? ⟨b, off + i * 5 + j, none⟩ = some u := hx i (Pa.cells t') (by rw [List.getElem?_map, ht]; rfl)
   have hr := all_drop rightPa ht
   have cN := c9.out i t' ht
   have cT := fun W k => c8.out i t' ht W k
   have y0 : wr.cell? ⟨b, off + i * 5, none⟩ = some (.string t'.name) := hx' 0 _ rfl
   have hty : ∀ (j : Nat) (u : Value), t'.type.cells[j]? = some u → wr.cell? ⟨b, off + i * 5 + 1 + j, none⟩ = some u := fun j u h => by rw [Nat.add_assoc]; exact hx' _ u (Pa.cells_type h)
   have SZ := hid (tySize t'.type)
   have hpr : rightPa t' = (nameB (bs t'.name) && rightT t'.type) := rfl
   generalize rightPa t' = rp at *
   generalize nameB (bs t'.name) = nb at *
   generalize rightT t'.type = tb at *
   generalize t'.name = pname at *
   generalize t'.type = pty at *
   have HT := hid hty
   have CN := hid cN
   have CT := hid cT
   have HP := hid hpr
   have HRR := hid hr
   clear hx hx' ht hr cN cT hty hpr c1 c2 c3 c4 c5 c6 c7 c8 c9
   cases nb
   ·have K : Hid (pars.all rightPa = false) := hid (by rw [HR.out, HRR.out, HP.out]; rfl)
    go_wp2_with fail
    with_reducible refine (CN.out _).mono ?_
    rintro e W2 ⟨rfl, hb2⟩
    go_wp2_with fail
    go_ret
    exact ⟨ret_bool (by rw [← HS.out, K.out]; rfl), hbw.out.trans (hb2.mono hbw.out.size)⟩
   ·go_wp2_with fail
    with_reducible refine (CN.out _).mono ?_
    rintro e W2 ⟨rfl, hb2⟩
    have X2 := hid (XR.out.later hb2)
    have B2 := hid (hbw.out.trans (hb2.mono hbw.out.size))
    have BB := hid (HB.out.trans (hb2.mono HB.out.size))
    have HT2 : Hid (∀ (j : Nat) (u : Value), pty.cells[j]? = some u → W2.cell? ⟨b, off + i * 5 + 1 + j, none⟩ = some u) := hid fun j u h => later hb2 (HT.out j u h)
    clear d2 y0 hb2
    have d2 := box_get X2.out HY.out.2.2.1
    go_wp2_with (with_reducible refine wpList_load_at (o := ⟨some 25, _, _, _, _, _⟩) rfl _ _ rfl b (off + i * 5 + 1) rfl pty.cells _ HT2.out Tryz.underlying34 rfl SZ.out ?_)
    with_reducible refine (CT.out _ (Keeps.of_below B2.out)).mono ?_
    rintro e W3 ⟨rfl, hb3⟩
    have B3 := hid (B2.out.trans (hb3.mono B2.out.size))
    have BB3 := hid (BB.out.trans (hb3.mono BB.out.size))
    clear hb3
    cases tb
    ·have K : Hid (pars.all rightPa = false) := hid (by rw [HR.out, HRR.out, HP.out]; rfl)
     go_wp2_with fail
     go_ret
     exact ⟨ret_bool (by rw [← HS.out, K.out]; rfl), B3.out⟩
    ·have K : Hid (pars.all rightPa = (pars.drop (i + 1)).all rightPa) := hid (by rw [HR.out, HRR.out, HP.out]; rfl)
     go_wp2_with fail
     go_roundg (gk - 1)
     case measure => omega
     case rel => exact ⟨i + 1, by go_num, by omega, by omega, K, BB3⟩
  ·obtain rfl : i = L := by omega
   have K : Hid (pars.all rightPa = true) := hid (by rw [HR.out, ← HL.out, List.drop_length]; rfl)
   have HF := hid HS.out
   clear HR c8 c9 HX
   have HF : Hid ((b1 && b2 && decide (i ≤ 30) && b3 && b4 && OL % 2 == 0 && b5 && decide (lb ≤ 3) && b7) = R) := hid (by rw [← HS.out, K.out]; rfl)
   clear HS K
   have d0 := box_get XR.out HY.out.1
   go_wp2_with fail
   with_reducible refine (c1.out _).mono ?_
   rintro e W11 ⟨rfl, hb11⟩
   have B11 := hid (hbw.out.trans (hb11.mono hbw.out.size))
   have X11 := hid (XR.out.later hb11)
   clear hb11
   clear d0 d2
   have d1 := box_get X11.out HY.out.2.1
   have d2 := box_get X11.out HY.out.2.2.1
   have d7 := box_get X11.out HY.out.2.2.2.1
   have d8 := box_get X11.out HY.out.2.2.2.2.1
   cases b1
   ·go_wp2_with fail
    go_ret
    exact ⟨ret_bool (by rw [← HF.out]; first | rfl | (simp; done) | (simp; omega)), B11.out⟩
   go_wp2_with fail
   with_reducible refine (c2.out _ (Keeps.of_below B11.out)).mono ?_
   rintro e W12 ⟨rfl, hb12⟩
   have B12 := hid (B11.out.trans (hb12.mono B11.out.size))
   have X12 := hid (X11.out.later hb12)
   clear hb12
   clear d1 d2 d7 d8
   have d1 := box_get X12.out HY.out.2.1
   have d2 := box_get X12.out HY.out.2.2.1
   have d7 := box_get X12.out HY.out.2.2.2.1
   have d8 := box_get X12.out HY.out.2.2.2.2.1
   cases b2
   ·go_wp2_with fail
    go_ret
    exact ⟨ret_bool (by rw [← HF.out]; first | rfl | (simp; done) | (simp; omega)), B12.out⟩
   by_cases h30 : 30 < i
   ·go_wp2_with fail
    go_ret
    exact ⟨ret_bool (by rw [← HF.out]; first | rfl | (simp; done) | (simp; omega)), B12.out⟩
   have h30' : i ≤ 30 := by omega
   have HG : Hid (∀ (j : Nat) (u : Value), gives.cells[j]? = some u → W12.cell? ⟨w.heap.size, 3 + j, none⟩ = some u) := hid fun j u h => box_get X12.out (HY.out.2.2.2.2.2.1 j u h)
   go_wp2_with (with_reducible refine wpList_load_at (o := ⟨some 45, _, _, _, _, _⟩) rfl _ _ rfl w.heap.size 3 rfl gives.cells _ HG.out Tryz.underlying34 rfl SG.out ?_)
   with_reducible refine (c3.out _ (Keeps.of_below B12.out)).mono ?_
   rintro e W13 ⟨rfl, hb13⟩
   have B13 := hid (B12.out.trans (hb13.mono B12.out.size))
   have X13 := hid (X12.out.later hb13)
   clear hb13
   clear d1 d2 d7 d8
   have d1 := box_get X13.out HY.out.2.1
   have d2 := box_get X13.out HY.out.2.2.1
   have d7 := box_get X13.out HY.out.2.2.2.1
   have d8 := box_get X13.out HY.out.2.2.2.2.1
   cases b3
   ·go_wp2_with fail
    go_ret
    exact ⟨ret_bool (by rw [← HF.out]; first | rfl | (simp; done) | (simp; omega)), B13.out⟩
   go_wp2_with fail
   with_reducible refine (c4.out _ (Keeps.of_below B13.out)).mono ?_
   rintro e W14 ⟨rfl, hb14⟩
   have B14 := hid (B13.out.trans (hb14.mono B13.out.size))
   have X14 := hid (X13.out.later hb14)
   clear hb14
   clear d1 d2 d7 d8
   have d1 := box_get X14.out HY.out.2.1
   have d2 := box_get X14.out HY.out.2.2.1
   have d7 := box_get X14.out HY.out.2.2.2.1
   have d8 := box_get X14.out HY.out.2.2.2.2.1
   cases b4
   ·go_wp2_with fail
    go_ret
    exact ⟨ret_bool (by rw [← HF.out]; first | rfl | (simp; done) | (simp; omega)), B14.out⟩
   by_cases hod : OL % 2 = 0
   rotate_left
   ·go_wp2_with fail
    go_ret
    exact ⟨ret_bool (by rw [← HF.out]; first | rfl | (simp; done) | (simp; omega)), B14.out⟩
   go_wp2_with fail
   with_reducible refine (c5.out _ (Keeps.of_below B14.out)).mono ?_
   rintro e W15 ⟨rfl, hb15⟩
   have B15 := hid (B14.out.trans (hb15.mono B14.out.size))
   have X15 := hid (X14.out.later hb15)
   clear hb15
   clear d1 d2 d7 d8
   have d1 := box_get X15.out HY.out.2.1
   have d2 := box_get X15.out HY.out.2.2.1
   have d7 := box_get X15.out HY.out.2.2.2.1
   have d8 := box_get X15.out HY.out.2.2.2.2.1
   cases b5
   ·go_wp2_with fail
    go_ret
    exact ⟨ret_bool (by rw [← HF.out]; first | rfl | (simp; done) | (simp; omega)), B15.out⟩
   go_wp2_with fail
   with_reducible refine (c6.out _ (Keeps.of_below B15.out)).mono ?_
   rintro e W16 ⟨rfl, hb16⟩
   have B16 := hid (B15.out.trans (hb16.mono B15.out.size))
   have X16 := hid (X15.out.later hb16)
   clear hb16
   clear d1 d2 d7 d8
   have d1 := box_get X16.out HY.out.2.1
   have d2 := box_get X16.out HY.out.2.2.1
   have d7 := box_get X16.out HY.out.2.2.2.1
   have d8 := box_get X16.out HY.out.2.2.2.2.1
   by_cases h3 : 3 < lb
   ·go_wp2_with fail
    go_ret
    exact ⟨ret_bool (by rw [← HF.out]; first | rfl | (simp; done) | (simp; omega)), B16.out⟩
   have h3' : lb ≤ 3 := by omega
   have HV : Hid (∀ (j : Nat) (u : Value), value.cells[j]? = some u → W16.cell? ⟨w.heap.size, 9 + j, none⟩ = some u) := hid fun j u h => box_get X16.out (HY.out.2.2.2.2.2.2 j u h)
   go_wp2_with (with_reducible refine wpList_load_at (o := ⟨some 73, _, _, _, _, _⟩) rfl _ _ rfl w.heap.size 9 rfl value.cells _ HV.out Tryz.underlying40 rfl SV.out ?_)
   with_reducible refine (c7.out _ (Keeps.of_below B16.out)).mono ?_
   rintro e W17 ⟨rfl, hb17⟩
   have B17 := hid (B16.out.trans (hb17.mono B16.out.size))
   have X17 := hid (X16.out.later hb17)
   clear hb17
   go_wp2_with fail
   go_ret
   exact ⟨ret_bool (by rw [← HF.out]; first | rfl | (simp; done) | (simp; omega)), B17.out⟩
/- Contract of tree.rightFn. -/

theorem enFn : Enters 39 := enters_of Tryz.func39 (by kernel_rfl) rfl
theorem eq_fn (P b1 b2 b3 b4 b5 b7 : Bool) (L OL lb : Nat) : (b1 && b2 && (P && decide (L ≤ 30)) && b3 && b4 && OL % 2 == 0 && b5 && decide (lb ≤ 3) && b7) = (P && b1 && b2 && decide (L ≤ 30) && b3 && b4 && OL % 2 == 0 && b5 && decide (lb ≤ 3) && b7) := by
 cases P <;> cases b1 <;> cases b2 <;> simp

set_option maxHeartbeats 8000000 in
set_option maxRecDepth 100000 in
theorem rightF_any (f : TreeP.Fn) (w : World) (hw : wF f ≤ 1048576) (hin : f.In w) (T : Tabs w) : Calls Tryz.prog 39 #[.agg (TreeP.Fn.cells f).toArray] w fun r w' => r = .returned (.bool (rightF f)) ∧ Below w.heap.size w w' := by
 obtain ⟨iL, ⟨iP, iPs⟩, iG, iO, ⟨iB, iBs⟩, iV⟩ := hin
 obtain ⟨z0, z1, z2, z7, z8⟩ := Fn.cells_one f
 have zg : ∀ j u, f.gives.cells[j]? = some u → (TreeP.Fn.cells f)[3 + j]? = some u := fun j u h => Fn.cells_gives h
 have zv : ∀ j u, f.value.cells[j]? = some u → (TreeP.Fn.cells f)[9 + j]? = some u := fun j u h => Fn.cells_value h
 unfold wF at hw
 have hP := wPas_len f.pars
 have hO := wNs_len f.outs
 have hlb := loopSs_le f.body
 have hsb := wSs_len f.body
 have c1 : Hid (∀ W, Below w.heap.size w W → Calls Tryz.prog 68 #[.string f.name] W fun r w' => r = .returned (.bool (nameB (bs f.name))) ∧ Below W.heap.size W w') := hid fun W k => isName_any f.name W (by omega) (T.below k)
 have c2 : Hid (∀ W, Below w.heap.size w W → Calls Tryz.prog 69 #[f.livesV, .func (.func 68) #[] #[]] W fun r w' => r = .returned (.bool (namesB f.lives)) ∧ Below W.heap.size W w') := hid fun W k => names_any W f.livesV f.lives (iL.keep (Keeps.of_below k)) (by omega) (T.below k)
 have c3 : Hid (∀ W, Below w.heap.size w W → Calls Tryz.prog 72 #[.agg f.gives.cells.toArray] W fun r w' => r = .returned (.bool (rightT f.gives)) ∧ Below W.heap.size W w') := hid fun W k => rightT_any _ f.gives W (Nat.le_refl _) (by omega) (Ty.In.keep (Keeps.of_below k) _ iG) (T.below k)
 have c4 : Hid (∀ W, Below w.heap.size w W → Calls Tryz.prog 69 #[f.outsV, .func (.func 68) #[] #[]] W fun r w' => r = .returned (.bool (namesB f.outs)) ∧ Below W.heap.size W w') := hid fun W k => names_any W f.outsV f.outs (iO.keep (Keeps.of_below k)) (by omega) (T.below k)
 have c5 : Hid (∀ W, Below w.heap.size w W → Calls Tryz.prog 73 #[f.bodyV] W fun r w' => r = .returned (.bool (rightL f.body)) ∧ Below W.heap.size W w') := hid fun W k => rightSs_any f.bodyV f.body W (by omega) (iB.keep (Keeps.of_below k)) (St.Ins.keep (Keeps.of_below k) _ iBs) (T.below k)
 have c6 : Hid (∀ W, Below w.heap.size w W → Calls Tryz.prog 74 #[f.bodyV] W fun r w' => r = .returned (.int .i64 (loopSs f.body : Int)) ∧ Below W.heap.size W w') := hid fun W k => loops_any _ f.body W f.bodyV (Nat.le_refl _) (by omega) (iB.keep (Keeps.of_below k)) (St.Ins.keep (Keeps.of_below k) _ iBs)
 have c7 : Hid (∀ W, Below w.heap.size w W → Calls Tryz.prog 75 #[.agg f.value.cells.toArray] W fun r w' => r = .returned (.bool (rightE f.value)) ∧ Below W.heap.size W w') := hid fun W k => rightE_any _ f.value W (Nat.le_refl _) (by omega) (Ex.In.keep (Keeps.of_below k) _ iV) (T.below k)
 have c8 : Hid (∀ W, Below w.heap.size w W → Calls Tryz.prog 70 #[f.parsV, .func (.func 71) #[] #[]] W fun r w' => r = .returned (.bool (f.pars.all rightPa && decide (f.pars.length ≤ 30))) ∧ Below W.heap.size W w') := hid fun W k =>
  every_paSize 71 rightPa enPr W f.parsV f.pars (iP.keep (Keeps.of_below k)) (by omega) (fun x hx => pa_ones (iPs x hx)) fun x hx W' hb' => by
   obtain ⟨i, hi, e⟩ := List.mem_iff_getElem.1 hx
   have := wPas_get f.pars i x (by rw [List.getElem?_eq_getElem hi, e])
   have hk := k.trans (hb'.mono k.size)
   exact rightPa_any x W' (by omega) (Ty.In.keep (Keeps.of_below hk) _ (iPs x hx)) (T.below hk)
 obtain ⟨R, hR⟩ : ∃ R, rightF f = R := ⟨_, rfl⟩
 rw [hR]
 unfold rightF at hR
 obtain ⟨op, ocap, hov, hocap, _⟩ := id iO
 rw [List.length_map] at *
 have SG := hid (tySize f.gives)
 have SV := hid (exSize f.value)
 rw [hov] at z7 c4
 generalize f.pars.length = L at *
 generalize hOL : f.outs.length = OL at *
 have hOb : OL ≤ 1048576 := by omega
 generalize nameB (bs f.name) = b1 at *
 generalize namesB f.lives = b2 at *
 generalize rightT f.gives = b3 at *
 generalize namesB f.outs = b4 at *
 generalize rightL f.body = b5 at *
 generalize loopSs f.body = lb at *
 generalize rightE f.value = b7 at *
 generalize f.pars.all rightPa = P at *
 generalize f.gives.cells = gc at *
 generalize f.value.cells = vc at *
 generalize f.livesV = livesV at *
 generalize f.parsV = parsV at *
 generalize f.bodyV = bodyV at *
 generalize f.name = name at *
 generalize TreeP.Fn.cells f = cs at *
 rw [← eq_fn] at hR
 generalize hPL : (P && decide (L ≤ 30)) = PL at *
 have HF := hid hR
 have HY := hid (And.intro z0 (And.intro z1 (And.intro z2 (And.intro z7 (And.intro z8 (And.intro zg zv))))))
 have hlb' : lb ≤ 1048576 := by omega
 clear hR hOL hPL z0 z1 z2 z7 z8 zg zv iL iP iPs iG iO iB iBs iV hov hw hO hsb hP hlb T
 have B0 := hid (show Below w.heap.size w (w.alloc (.cells cs.toArray 42 (0, 0))) from (Below.refl _ _).alloc (Nat.le_refl _) _)
 have X0 := hid (BoxAt.new w cs 42)
 go_enter Tryz.func39, Tryz.ntmps39
 have d1 := box_get X0.out HY.out.1
 go_wp2_with fail
 with_reducible refine (c1.out _ B0.out).mono ?_
 rintro e W1 ⟨rfl, hb1⟩
 have B1 := hid (B0.out.trans (hb1.mono B0.out.size))
 have X1 := hid (X0.out.later hb1)
 clear hb1 d1
 have d1 := box_get X1.out HY.out.2.1
 cases b1
 ·go_wp2_with fail
  go_ret
  exact ⟨ret_bool (by rw [← HF.out]; first | rfl | (simp; done) | (simp; omega)), B1.out⟩
 go_wp2_with fail
 with_reducible refine (c2.out _ B1.out).mono ?_
 rintro e W2 ⟨rfl, hb2⟩
 have B2 := hid (B1.out.trans (hb2.mono B1.out.size))
 have X2 := hid (X1.out.later hb2)
 clear hb2 d1
 have d1 := box_get X2.out HY.out.2.2.1
 cases b2
 ·go_wp2_with fail
  go_ret
  exact ⟨ret_bool (by rw [← HF.out]; first | rfl | (simp; done) | (simp; omega)), B2.out⟩
 go_wp2_with fail
 with_reducible refine (c8.out _ B2.out).mono ?_
 rintro e W3 ⟨rfl, hb3⟩
 have B3 := hid (B2.out.trans (hb3.mono B2.out.size))
 have X3 := hid (X2.out.later hb3)
 clear hb3 d1
 have d1 := box_get X3.out HY.out.1
 cases PL
 ·go_wp2_with fail
  go_ret
  exact ⟨ret_bool (by rw [← HF.out]; first | rfl | (simp; done) | (simp; omega)), B3.out⟩
 go_wp2_with (with_reducible refine wpList_load_at (o := ⟨some 18, _, _, _, _, _⟩) rfl _ _ rfl w.heap.size 3 rfl gc _ (fun j u h => box_get X3.out (HY.out.2.2.2.2.2.1 j u h)) Tryz.underlying34 rfl SG.out ?_)
 with_reducible refine (c3.out _ B3.out).mono ?_
 rintro e W4 ⟨rfl, hb4⟩
 have B4 := hid (B3.out.trans (hb4.mono B3.out.size))
 have X4 := hid (X3.out.later hb4)
 clear hb4 d1
 have d1 := box_get X4.out HY.out.2.2.2.1
 cases b3
 ·go_wp2_with fail
  go_ret
  exact ⟨ret_bool (by rw [← HF.out]; first | rfl | (simp; done) | (simp; omega)), B4.out⟩
 go_wp2_with fail
 with_reducible refine (c4.out _ B4.out).mono ?_
 rintro e W5 ⟨rfl, hb5⟩
 have B5 := hid (B4.out.trans (hb5.mono B4.out.size))
 have X5 := hid (X4.out.later hb5)
 clear hb5 d1
 have d7 := box_get X5.out HY.out.2.2.2.1
 have d8 := box_get X5.out HY.out.2.2.2.2.1
 cases b4
 ·go_wp2_with fail
  go_ret
  exact ⟨ret_bool (by rw [← HF.out]; first | rfl | (simp; done) | (simp; omega)), B5.out⟩
 by_cases hod : OL % 2 = 0
 rotate_left
 ·go_wp2_with fail
  go_ret
  exact ⟨ret_bool (by rw [← HF.out]; first | rfl | (simp; done) | (simp; omega)), B5.out⟩
 go_wp2_with fail
 with_reducible refine (c5.out _ B5.out).mono ?_
 rintro e W6 ⟨rfl, hb6⟩
 have B6 := hid (B5.out.trans (hb6.mono B5.out.size))
 have X6 := hid (X5.out.later hb6)
 clear hb6 d7 d8
 have d8 := box_get X6.out HY.out.2.2.2.2.1
 cases b5
 ·go_wp2_with fail
  go_ret
  exact ⟨ret_bool (by rw [← HF.out]; first | rfl | (simp; done) | (simp; omega)), B6.out⟩
 go_wp2_with fail
 with_reducible refine (c6.out _ B6.out).mono ?_
 rintro e W7 ⟨rfl, hb7⟩
 have B7 := hid (B6.out.trans (hb7.mono B6.out.size))
 have X7 := hid (X6.out.later hb7)
 clear hb7 d8
 by_cases h3 : 3 < lb
 ·go_wp2_with fail
  go_ret
  exact ⟨ret_bool (by rw [← HF.out]; first | rfl | (simp; done) | (simp; omega)), B7.out⟩
 have h3' : lb ≤ 3 := by omega
 go_wp2_with (with_reducible refine wpList_load_at (o := ⟨some 46, _, _, _, _, _⟩) rfl _ _ rfl w.heap.size 9 rfl vc _ (fun j u h => box_get X7.out (HY.out.2.2.2.2.2.2 j u h)) Tryz.underlying40 rfl SV.out ?_)
 with_reducible refine (c7.out _ B7.out).mono ?_
 rintro e W8 ⟨rfl, hb8⟩
 go_wp2_with fail
 go_ret
 exact ⟨ret_bool (by rw [← HF.out]; first | rfl | (simp; done) | (simp; omega)), B7.out.trans (hb8.mono B7.out.size)⟩
/- Contract of tree.every at functions, each asked by rightFn. -/

theorem ty_ones {w : World} {t : Ty} (h : t.In w) : Ones t.cells := by
 obtain ⟨k', l', m', v', ks'⟩ := t
 rw [Ty.In] at h
 obtain ⟨p, c, rfl, _⟩ := h.1
 exact (show Ones [.int .i64 k', .string l', .bool m', .slice p (List.map Ty.cells ks').length c] from by unfold Ones; simp [Value.oneCell'])
theorem fn_ones {w : World} {f : TreeP.Fn} (h : f.In w) : Ones (TreeP.Fn.cells f) := by
 obtain ⟨h1, ⟨h2, _⟩, h3, h4, ⟨h5, _⟩, h6⟩ := h
 obtain ⟨p1, c1, e1, _⟩ := h1
 obtain ⟨p2, c2, e2, _⟩ := h2
 obtain ⟨p4, c4, e4, _⟩ := h4
 obtain ⟨p5, c5, e5, _⟩ := h5
 unfold TreeP.Fn.cells
 rw [e1, e2, e4, e5]
 refine Ones.app (Ones.app (Ones.app ?_ (ty_ones h3)) ?_) (ex_ones h6)
 ·unfold Ones; simp [Value.oneCell']
 ·unfold Ones; simp [Value.oneCell']
theorem rightAll_any (p : List TreeP.Fn) (w : World) (v : Value) (hin : ProgIn w v p) (hw : wFs p ≤ 1048576) (T : Tabs w) :
  Calls Tryz.prog 38 #[v, .func (.func 39) #[] #[]] w fun r w' => r = .returned (.bool (p.all rightF && decide (p.length ≤ 30))) ∧ Below w.heap.size w w' :=
 every_fnSize 39 rightF enFn w v p hin.1 (by have := wFs_len p; omega) (fun x hx => fn_ones (hin.2 x hx)) fun x hx W hb => by
  obtain ⟨i, hi, e⟩ := List.mem_iff_getElem.1 hx
  have := wFs_get p i x (by rw [List.getElem?_eq_getElem hi, e])
  exact rightF_any x W (by omega) ((hin.2 x hx).keep (Keeps.of_below hb)) (T.below hb)
end Go.Proofs.YtemflcojebanlaaGreatDoor.TreeC
