/- Texts joined: EnvZL, EnvJF. -/
import Derived.Test.YtannfhbocfghkaaDoorJ06
import Derived.Test.YtannfhbocfghkaaDoorJ08
import Derived.Test.YtannfhbocfghkaaDoorJ10
import Derived.Test.YtannfhbocfghkaaDoorJ11
/- The document's Same (lienbookref05): are two environments alike? -/
namespace Go.Proofs.YtannfhbocfghkaaDoor.EnvC
open Go Go.RowKit Go.Lib Go.Sort Go.Proofs.YtannfhbocfghkaaDoor.EnvP

theorem sameE_len : ∀ {l m : List Bd}, sameE l m = true → l.length = m.length
  | [], [], _ => rfl
  | a :: l, b :: m, h => by rw [sameE, Bool.and_eq_true] at h; rw [List.length_cons, List.length_cons, sameE_len h.2]
  | [], _ :: _, h => by cases h
  | _ :: _, [], h => by cases h
theorem sameE_ne {l m : List Bd} (h : ¬ l.length = m.length) : sameE l m = false := by
  cases e : sameE l m
  · rfl
  · exact absurd (sameE_len e) h

set_option maxHeartbeats 8000000 in
set_option maxRecDepth 100000 in
theorem rSame_any (e f : List Bd) (v u : Value) (w : World) (h : EnvIn w v e) (h' : EnvIn w u f) (hs : ∀ b ∈ e, Small b.ty) (hs' : ∀ b ∈ f, Small b.ty) (hlen : e.length ≤ 1048576) (hlen' : f.length ≤ 1048576) :
    Calls Tryd.prog 15 #[v, u] w fun r w' => r = .returned (.bool (sameE e f)) ∧ Below w.heap.size w w' := by
  obtain ⟨pe, cap, hcap, rfl⟩ := lies_slice h.1
  obtain ⟨pf, cap', hcap', rfl⟩ := lies_slice h'.1
  obtain ⟨R, hR⟩ : ∃ R, sameE e f = R := ⟨_, rfl⟩
  rw [hR]
  have c1 := fun (x : Bd) (hx : x ∈ e) (y : Bd) (hy : y ∈ f) (W : World) (hb : Below w.heap.size w W) => rSameT_any 1048576 x.ty y.ty W (hs x hx) (Nat.le_refl _) (hs' y hy) (ETy.In.keep (Keeps.of_below hb) _ (h.2 x hx)) (ETy.In.keep (Keeps.of_below hb) _ (h'.2 y hy))
  have hne := @sameE_ne e f
  generalize hL : e.length = L at *
  generalize hL' : f.length = L' at *
  by_cases h0 : ¬ L = L'
  · have HN : Hid (R = false) := hid (by rw [← hR, hne h0])
    have h0' : ¬ (L : Int) = L' := by omega
    clear h h' c1 hne hR
    go_enter Tryd.func15, Tryd.ntmps15
    go_wp2_with fail
    go_ret
    exact ⟨ret_bool HN.out.symm, Below.refl _ _⟩
  obtain rfl : L = L' := Decidable.not_not.1 h0
  have HR : Hid (sameE (e.drop 0) (f.drop 0) = R) := hid (by rw [List.drop_zero, List.drop_zero]; exact hR)
  have HE := hid h
  have HF := hid h'
  have HL := hid hL
  have HL' := hid hL'
  have C1 := hid c1
  clear hR h h' hL hL' c1 hs hs' hne h0
  go_enter Tryd.func15, Tryd.ntmps15
  go_wp2_with fail
  go_loopg [5] L (fun gf u wx => ∃ j : Nat, u = .int .i64 (j : Int) ∧ j ≤ L ∧ L ≤ j + gf ∧ Hid (sameE (e.drop j) (f.drop j) = R) ∧ Hid (Below w.heap.size w wx))
  case atStart => exact ⟨0, rfl, by omega, by omega, HR, hid (Below.refl _ _)⟩
  case round =>
    obtain ⟨j, rfl, hj, hg2, HJ, HB⟩ := hrel
    clear HR
    have hbw := HB.out
    by_cases hlt2 : j < L
    · obtain ⟨x, hx⟩ : ∃ x, e[j]? = some x := ⟨e[j]'(by rw [HL.out]; exact hlt2), List.getElem?_eq_getElem _⟩
      obtain ⟨y, hy⟩ : ∃ y, f[j]? = some y := ⟨f[j]'(by rw [HL'.out]; exact hlt2), List.getElem?_eq_getElem _⟩
      obtain ⟨b, off, c0, e', _, hxx⟩ := Lies.at (HE.out.1.keep (Keeps.of_below hbw)) (i := j) (by rw [List.length_map, HL.out]; exact hlt2)
      obtain ⟨b2, off2, c2, e'', _, hyy⟩ := Lies.at (HF.out.1.keep (Keeps.of_below hbw)) (i := j) (by rw [List.length_map, HL'.out]; exact hlt2)
      injection e' with e1 e2 e3
      injection e'' with e4 e5 e6
      subst e1 e4
      clear e2 e3 e5 e6
      have hxc := hxx j x.cells (by rw [List.getElem?_map, hx]; rfl)
      have hyc := hyy j y.cells (by rw [List.getElem?_map, hy]; rfl)
      have hxt : ∀ (a : Nat) (u : Value), x.ty.cells[a]? = some u → wr.cell? ⟨b, off + j * 6 + 1 + a, none⟩ = some u := fun a u hu => by
        have := hxc (1 + a) u (by unfold Bd.cells; rw [List.getElem?_append_right (by simp)]; simpa using hu)
        rw [Nat.add_assoc (off + j * 6)]; exact this
      have hyt : ∀ (a : Nat) (u : Value), y.ty.cells[a]? = some u → wr.cell? ⟨b2, off2 + j * 6 + 1 + a, none⟩ = some u := fun a u hu => by
        have := hyc (1 + a) u (by unfold Bd.cells; rw [List.getElem?_append_right (by simp)]; simpa using hu)
        rw [Nat.add_assoc (off2 + j * 6)]; exact this
      have x0 := hxc 0 (.string x.name) rfl
      have y0 := hyc 0 (.string y.name) rfl
      rw [Nat.add_zero] at x0 y0
      have k0 := cell_regrown x0
      have k1 := cell_regrown y0
      have CY := hid (fun (d : Nat) (os : Array Obj) => Calls.regrown_of (C1.out x (List.mem_of_getElem? hx) y (List.mem_of_getElem? hy) (grow (redrawn wr d) os) (hbw.trans ((below_regrown wr d os).mono hbw.size))))
      change Hid (∀ d os, Calls _ _ #[.agg x.ty.cells.toArray, .agg y.ty.cells.toArray] _ _) at CY
      have KX := hid (reg_cells hxt)
      have KY := hid (reg_cells hyt)
      have ZX := hid (tySize x.ty)
      have ZY := hid (tySize y.ty)
      have hp := HJ.out
      rw [drop_cons hx, drop_cons hy, sameE] at hp
      rw [show (bs x.name == bs y.name) = (x.name.toList == y.name.toList) by rw [Lib.toList_data, Lib.toList_data]] at hp
      generalize sameT x.ty y.ty = q at *
      generalize x.ty.cells = xcs at *
      generalize y.ty.cells = ycs at *
      generalize x.name = xn at *
      generalize y.name = yn at *
      have HP := hid hp
      have HBW2 := hid hbw
      have i1 : (j : Int) < (L : Int) := by omega
      have i0 : (0 : Int) ≤ (j : Int) := by omega
      clear hx hy hxx hyy hxc hyc hxt hyt hp HJ hbw x0 y0
      cases hq : (xn.toList == yn.toList)
      all_goals (
        have HP2 := HP.out
        rw [hq] at HP2
        replace HP2 := hid HP2
        clear HP
        go_wp2_with fail
        refine wp_region_quiet_below (by kernel_rfl) (by kernel_rfl) ?_
        repeat (first | ((with_reducible refine wpQuiet_load_at (o := ⟨some 33, _, _, _, _, _⟩) rfl _ _ rfl b (off + j * 6 + 1) rfl xcs _ KX.out Tryd.underlying31 rfl ZX.out ?_); simp only [Act.put, List.setIfInBounds_toArray, List.set_cons_zero, List.set_cons_succ]) | ((with_reducible refine wpQuiet_load_at (o := ⟨some 38, _, _, _, _, _⟩) rfl _ _ rfl b2 (off2 + j * 6 + 1) rfl ycs _ KY.out Tryd.underlying31 rfl ZY.out ?_); simp only [Act.put, List.setIfInBounds_toArray, List.set_cons_zero, List.set_cons_succ]) | go_big_quiet_step (first | (with_reducible exact CY.out _ _)))
        refine wpQuiet_nil ?_
        intro _ hw'
        obtain ⟨⟨dq, osq⟩, hw''⟩ := hw'
        subst hw''
        have B3 := hid (HB.out.trans ((below_regrown wr dq osq).mono HB.out.size))
        clear HB CY KX KY HBW2 k0 k1)
      · have HN : Hid (R = false) := hid (by rw [← HP2.out]; rfl)
        clear HP2
        go_wp2_with fail
        go_ret
        exact ⟨ret_bool HN.out.symm, B3.out⟩
      · cases q
        · have HN : Hid (R = false) := hid (by rw [← HP2.out]; rfl)
          clear HP2
          go_wp2_with fail
          go_ret
          exact ⟨ret_bool HN.out.symm, B3.out⟩
        · have HN : Hid (sameE (e.drop (j + 1)) (f.drop (j + 1)) = R) := hid (by rw [← HP2.out]; rfl)
          clear HP2
          go_wp2_with fail
          go_roundg (gk - 1)
          case measure => omega
          case rel => exact ⟨j + 1, by go_num, by omega, by omega, HN, B3⟩
    · have HN : Hid (R = true) := hid (by rw [← HJ.out, List.drop_eq_nil_of_le (by rw [HL.out]; omega), List.drop_eq_nil_of_le (by rw [HL'.out]; omega)]; rfl)
      clear HJ hbw
      go_wp2_with fail
      go_ret
      exact ⟨ret_bool HN.out.symm, HB.out⟩
end Go.Proofs.YtannfhbocfghkaaDoor.EnvC
/- The document's Right, Both and Less (lienbookref05); made by gen_jf.py. -/
namespace Go.Proofs.YtannfhbocfghkaaDoor.EnvC
open Go Go.RowKit Go.Lib Go.Sort Go.Proofs.YtannfhbocfghkaaDoor.EnvP

def rtB (b : Bd) : Bool := rightT b.ty
set_option maxHeartbeats 8000000 in
set_option maxRecDepth 100000 in
theorem rRight_any (e : List Bd) (v : Value) (w : World) (h : EnvIn w v e) (hs : ∀ b ∈ e, Small b.ty) (hlen : e.length ≤ 1048576) :
    Calls Tryd.prog 7 #[v] w fun r w' => r = .returned (.bool (right e)) ∧ Below w.heap.size w w' := by
  obtain ⟨pe, cap, hcap, rfl⟩ := lies_slice h.1
  obtain ⟨R, hR⟩ : ∃ R, right e = R := ⟨_, rfl⟩
  rw [hR]
  have c1 := fun (x : Bd) (hx : x ∈ e) (W : World) (hb : Below w.heap.size w W) => rRightT_any 1048576 x.ty W (hs x hx) (Nat.le_refl _) (ETy.In.keep (Keeps.of_below hb) _ (h.2 x hx))
  generalize hL : e.length = L at *
  have HR : Hid ((e.drop 0).all rtB = R) := hid (by rw [List.drop_zero]; exact hR)
  have HE := hid h
  have HL := hid hL
  have C1 := hid c1
  clear hR h hL c1 hs
  go_enter Tryd.func7, Tryd.ntmps7
  go_wp2_with fail
  go_loopg [3] L (fun gf u wx => ∃ j : Nat, u = .int .i64 (j : Int) ∧ j ≤ L ∧ L ≤ j + gf ∧ Hid ((e.drop j).all rtB = R) ∧ Hid (Below w.heap.size w wx))
  case atStart => exact ⟨0, rfl, by omega, by omega, HR, hid (Below.refl _ _)⟩
  case round =>
    obtain ⟨j, rfl, hj, hg2, HJ, HB⟩ := hrel
    clear HR
    have hbw := HB.out
    by_cases hlt2 : j < L
    · obtain ⟨x, hx⟩ : ∃ x, e[j]? = some x := ⟨e[j]'(by rw [HL.out]; exact hlt2), List.getElem?_eq_getElem _⟩
      obtain ⟨b, off, c0, e', _, hxx⟩ := Lies.at (HE.out.1.keep (Keeps.of_below hbw)) (i := j) (by rw [List.length_map, HL.out]; exact hlt2)
      injection e' with e1 e2 e3
      subst e1
      clear e2 e3
      have hxc := hxx j x.cells (by rw [List.getElem?_map, hx]; rfl)
      have hxt : ∀ (a : Nat) (u : Value), x.ty.cells[a]? = some u → wr.cell? ⟨b, off + j * 6 + 1 + a, none⟩ = some u := fun a u hu => by
        have := hxc (1 + a) u (by unfold Bd.cells; rw [List.getElem?_append_right (by simp)]; simpa using hu)
        rw [Nat.add_assoc (off + j * 6)]; exact this
      have CY := hid (C1.out x (List.mem_of_getElem? hx) wr hbw)
      change Hid (Calls _ _ #[.agg x.ty.cells.toArray] _ _) at CY
      have KX := hid hxt
      have ZX := hid (tySize x.ty)
      have hp := HJ.out
      rw [drop_cons hx, List.all_cons] at hp
      change (rightT x.ty && (e.drop (j + 1)).all rtB) = R at hp
      generalize rightT x.ty = q at *
      generalize x.ty.cells = xcs at *
      have HP := hid hp
      have i1 : (j : Int) < (L : Int) := by omega
      have i0 : (0 : Int) ≤ (j : Int) := by omega
      clear hx hxx hxc hxt hp HJ hbw
      go_wp2_with (with_reducible refine wpList_load_at (o := ⟨some 14, _, _, _, _, _⟩) rfl _ _ rfl b (off + j * 6 + 1) rfl xcs _ KX.out Tryd.underlying31 rfl ZX.out ?_)
      with_reducible refine CY.out.mono ?_
      rintro e3 W3 ⟨rfl, hb3⟩
      have B3 := hid (HB.out.trans (hb3.mono HB.out.size))
      clear HB CY KX hb3
      cases q
      · have HN : Hid (R = false) := hid (by rw [← HP.out]; rfl)
        clear HP
        go_wp2_with fail
        go_ret
        exact ⟨ret_bool HN.out.symm, B3.out⟩
      · have HN : Hid ((e.drop (j + 1)).all rtB = R) := hid (by rw [← HP.out]; rfl)
        clear HP
        go_wp2_with fail
        go_roundg (gk - 1)
        case measure => omega
        case rel => exact ⟨j + 1, by go_num, by omega, by omega, HN, B3⟩
    · have HN : Hid (R = true) := hid (by rw [← HJ.out, List.drop_eq_nil_of_le (by rw [HL.out]; omega)]; rfl)
      clear HJ hbw
      go_wp2_with fail
      go_ret
      exact ⟨ret_bool HN.out.symm, HB.out⟩

set_option maxHeartbeats 8000000 in
set_option maxRecDepth 100000 in
theorem rBoth_any (e f : List Bd) (v u : Value) (w : World) (h : EnvIn w v e) (h' : EnvIn w u f) (hs : ∀ b ∈ e, Small b.ty) (hs' : ∀ b ∈ f, Small b.ty) (hlen : e.length ≤ 1048576) (hlen' : f.length ≤ 1048576) :
    Calls Tryd.prog 13 #[v, u] w fun r w' => r = .returned (.bool (both e f)) ∧ Below w.heap.size w w' := by
  have r1 := rRight_any e v w h hs hlen
  have r2 := fun (W : World) (hb : Below w.heap.size w W) => rRight_any f u W (h'.keep (Keeps.of_below hb)) hs' hlen'
  obtain ⟨pe, cap, hcap, rfl⟩ := lies_slice h.1
  obtain ⟨pf, cap', hcap', rfl⟩ := lies_slice h'.1
  obtain ⟨R, hR⟩ : ∃ R, both e f = R := ⟨_, rfl⟩
  rw [hR]
  rw [both_parts] at hR
  have c1 := fun (x : Bd) (hx : x ∈ e) (y : Bd) (hy : y ∈ f) (W : World) (hb : Below w.heap.size w W) => rFits_any 1048576 x.ty y.ty W (hs x hx) (Nat.le_refl _) (hs' y hy) (ETy.In.keep (Keeps.of_below hb) _ (h.2 x hx)) (ETy.In.keep (Keeps.of_below hb) _ (h'.2 y hy))
  generalize hL : e.length = L at *
  generalize hL' : f.length = L' at *
  have HE := hid h
  have HF := hid h'
  have HL := hid hL
  have HL' := hid hL'
  have C1 := hid c1
  have HR0 := hid hR
  have Q1 := hid r1
  have Q2 := hid r2
  clear hR h h' hL hL' c1 hs hs' r1 r2
  go_enter Tryd.func13, Tryd.ntmps13
  go_wp2_with fail
  refine Q1.out.mono ?_
  rintro e0 W2 ⟨rfl, hb2⟩
  have H2 := hid hb2
  have D2 := hid (Q2.out W2 hb2)
  clear hb2 Q1 Q2
  generalize right e = ra at *
  generalize right f = rb at *
  cases ra
  · have HN : Hid (R = false) := hid (by rw [← HR0.out]; rfl)
    clear HR0
    go_wp2_with fail
    go_ret
    exact ⟨ret_bool HN.out.symm, H2.out⟩
  go_wp2_with fail
  refine D2.out.mono ?_
  rintro e0 W3 ⟨rfl, hb3⟩
  have H3 := hid (H2.out.trans (hb3.mono H2.out.size))
  clear hb3 D2 H2
  cases rb
  · have HN : Hid (R = false) := hid (by rw [← HR0.out]; rfl)
    clear HR0
    go_wp2_with fail
    go_ret
    exact ⟨ret_bool HN.out.symm, H3.out⟩
  by_cases h0 : ¬ L = L'
  · have HN : Hid (R = false) := hid (by rw [← HR0.out, beq_eq_false_iff_ne.2 h0]; simp)
    have h0' : ¬ (L : Int) = L' := by omega
    clear HR0
    go_wp2_with fail
    go_ret
    exact ⟨ret_bool HN.out.symm, H3.out⟩
  obtain rfl : L = L' := Decidable.not_not.1 h0
  have HR : Hid (((e.drop 0).zip (f.drop 0)).all alikeB = R) := hid (by rw [← HR0.out, List.drop_zero, List.drop_zero]; simp)
  clear HR0 h0
  go_wp2_with fail
  go_loopg [5] L (fun gf u wx => ∃ j : Nat, u = .int .i64 (j : Int) ∧ j ≤ L ∧ L ≤ j + gf ∧ Hid (((e.drop j).zip (f.drop j)).all alikeB = R) ∧ Hid (Below w.heap.size w wx))
  case atStart => exact ⟨0, rfl, by omega, by omega, HR, H3⟩
  case round =>
    obtain ⟨j, rfl, hj, hg2, HJ, HB⟩ := hrel
    clear HR
    have hbw := HB.out
    by_cases hlt2 : j < L
    · obtain ⟨x, hx⟩ : ∃ x, e[j]? = some x := ⟨e[j]'(by rw [HL.out]; exact hlt2), List.getElem?_eq_getElem _⟩
      obtain ⟨y, hy⟩ : ∃ y, f[j]? = some y := ⟨f[j]'(by rw [HL'.out]; exact hlt2), List.getElem?_eq_getElem _⟩
      obtain ⟨b, off, c0, e', _, hxx⟩ := Lies.at (HE.out.1.keep (Keeps.of_below hbw)) (i := j) (by rw [List.length_map, HL.out]; exact hlt2)
      obtain ⟨b2, off2, c2, e'', _, hyy⟩ := Lies.at (HF.out.1.keep (Keeps.of_below hbw)) (i := j) (by rw [List.length_map, HL'.out]; exact hlt2)
      injection e' with e1 e2 e3
      injection e'' with e4 e5 e6
      subst e1 e4
      clear e2 e3 e5 e6
      have hxc := hxx j x.cells (by rw [List.getElem?_map, hx]; rfl)
      have hyc := hyy j y.cells (by rw [List.getElem?_map, hy]; rfl)
      have hxt : ∀ (a : Nat) (u : Value), x.ty.cells[a]? = some u → wr.cell? ⟨b, off + j * 6 + 1 + a, none⟩ = some u := fun a u hu => by
        have := hxc (1 + a) u (by unfold Bd.cells; rw [List.getElem?_append_right (by simp)]; simpa using hu)
        rw [Nat.add_assoc (off + j * 6)]; exact this
      have hyt : ∀ (a : Nat) (u : Value), y.ty.cells[a]? = some u → wr.cell? ⟨b2, off2 + j * 6 + 1 + a, none⟩ = some u := fun a u hu => by
        have := hyc (1 + a) u (by unfold Bd.cells; rw [List.getElem?_append_right (by simp)]; simpa using hu)
        rw [Nat.add_assoc (off2 + j * 6)]; exact this
      have x0 := hxc 0 (.string x.name) rfl
      have y0 := hyc 0 (.string y.name) rfl
      rw [Nat.add_zero] at x0 y0
      have k0 := cell_regrown x0
      have k1 := cell_regrown y0
      have CY := hid (fun (d : Nat) (os : Array Obj) => Calls.regrown_of (C1.out x (List.mem_of_getElem? hx) y (List.mem_of_getElem? hy) (grow (redrawn wr d) os) (hbw.trans ((below_regrown wr d os).mono hbw.size))))
      change Hid (∀ d os, Calls _ _ #[.agg x.ty.cells.toArray, .agg y.ty.cells.toArray] _ _) at CY
      have KX := hid (reg_cells hxt)
      have KY := hid (reg_cells hyt)
      have ZX := hid (tySize x.ty)
      have ZY := hid (tySize y.ty)
      have hp := HJ.out
      rw [drop_cons hx, drop_cons hy, List.zip_cons_cons, List.all_cons] at hp
      unfold alikeB at hp
      dsimp only at hp
      rw [show (bs x.name == bs y.name) = (x.name.toList == y.name.toList) by rw [Lib.toList_data, Lib.toList_data]] at hp
      generalize fitsT x.ty y.ty = q at *
      generalize x.ty.cells = xcs at *
      generalize y.ty.cells = ycs at *
      generalize x.name = xn at *
      generalize y.name = yn at *
      have HP := hid hp
      have HBW2 := hid hbw
      have i1 : (j : Int) < (L : Int) := by omega
      have i0 : (0 : Int) ≤ (j : Int) := by omega
      clear hx hy hxx hyy hxc hyc hxt hyt hp HJ hbw x0 y0
      cases hq : (xn.toList == yn.toList)
      all_goals (
        have HP2 := HP.out
        rw [hq] at HP2
        replace HP2 := hid HP2
        clear HP
        go_wp2_with fail
        refine wp_region_quiet_below (by kernel_rfl) (by kernel_rfl) ?_
        repeat (first | ((with_reducible refine wpQuiet_load_at (o := ⟨some 43, _, _, _, _, _⟩) rfl _ _ rfl b (off + j * 6 + 1) rfl xcs _ KX.out Tryd.underlying31 rfl ZX.out ?_); simp only [Act.put, List.setIfInBounds_toArray, List.set_cons_zero, List.set_cons_succ]) | ((with_reducible refine wpQuiet_load_at (o := ⟨some 48, _, _, _, _, _⟩) rfl _ _ rfl b2 (off2 + j * 6 + 1) rfl ycs _ KY.out Tryd.underlying31 rfl ZY.out ?_); simp only [Act.put, List.setIfInBounds_toArray, List.set_cons_zero, List.set_cons_succ]) | go_big_quiet_step (first | (with_reducible exact CY.out _ _)))
        refine wpQuiet_nil ?_
        intro _ hw'
        obtain ⟨⟨dq, osq⟩, hw''⟩ := hw'
        subst hw''
        have B3 := hid (HB.out.trans ((below_regrown wr dq osq).mono HB.out.size))
        clear HB CY KX KY HBW2 k0 k1)
      · have HN : Hid (R = false) := hid (by rw [← HP2.out]; rfl)
        clear HP2
        go_wp2_with fail
        go_ret
        exact ⟨ret_bool HN.out.symm, B3.out⟩
      · cases q
        · have HN : Hid (R = false) := hid (by rw [← HP2.out]; rfl)
          clear HP2
          go_wp2_with fail
          go_ret
          exact ⟨ret_bool HN.out.symm, B3.out⟩
        · have HN : Hid (((e.drop (j + 1)).zip (f.drop (j + 1))).all alikeB = R) := hid (by rw [← HP2.out]; rfl)
          clear HP2
          go_wp2_with fail
          go_roundg (gk - 1)
          case measure => omega
          case rel => exact ⟨j + 1, by go_num, by omega, by omega, HN, B3⟩
    · have HN : Hid (R = true) := hid (by rw [← HJ.out, List.drop_eq_nil_of_le (by rw [HL.out]; omega), List.drop_eq_nil_of_le (by rw [HL'.out]; omega)]; rfl)
      clear HJ hbw
      go_wp2_with fail
      go_ret
      exact ⟨ret_bool HN.out.symm, HB.out⟩
theorem fits_both {e f : List Bd} (h : both e f = true) {i : Nat} {x y : Bd} (hx : e[i]? = some x) (hy : f[i]? = some y) : fitsT x.ty y.ty = true := by
  rw [both_parts] at h
  simp only [Bool.and_eq_true] at h
  have h3 := h.2
  rw [List.all_eq_true] at h3
  have := h3 (x, y) (List.mem_of_getElem? (i := i) (by rw [List.getElem?_zip_eq_some]; exact ⟨hx, hy⟩))
  unfold alikeB at this
  rw [Bool.and_eq_true] at this
  exact this.2
theorem len_both {e f : List Bd} (h : both e f = true) : e.length = f.length := by
  rw [both_parts] at h
  simp only [Bool.and_eq_true, beq_iff_eq] at h
  exact h.1.2
set_option maxHeartbeats 8000000 in
set_option maxRecDepth 100000 in
theorem rLess_any (e f : List Bd) (v u : Value) (w : World) (h : EnvIn w v e) (h' : EnvIn w u f) (hs : ∀ b ∈ e, Small b.ty) (hs' : ∀ b ∈ f, Small b.ty) (hlen : e.length ≤ 1048576) (hlen' : f.length ≤ 1048576) :
    Calls Tryd.prog 9 #[v, u] w fun r w' => r = .returned (.bool (less e f)) ∧ Below w.heap.size w w' := by
  have r1 := rBoth_any e f v u w h h' hs hs' hlen hlen'
  obtain ⟨pe, cap, hcap, rfl⟩ := lies_slice h.1
  obtain ⟨pf, cap', hcap', rfl⟩ := lies_slice h'.1
  obtain ⟨R, hR⟩ : ∃ R, less e f = R := ⟨_, rfl⟩
  rw [hR]
  rw [less_eq'] at hR
  have c1 := fun (x : Bd) (hx : x ∈ e) (y : Bd) (hy : y ∈ f) (hxy : fitsT x.ty y.ty = true) (W : World) (hb : Below w.heap.size w W) => rLessT_any 1048576 x.ty y.ty W (hs x hx) (Nat.le_refl _) (hs' y hy) (ETy.In.keep (Keeps.of_below hb) _ (h.2 x hx)) (ETy.In.keep (Keeps.of_below hb) _ (h'.2 y hy)) hxy
  have HE := hid h
  have HF := hid h'
  have C1 := hid c1
  have HR0 := hid hR
  have Q1 := hid r1
  have HLB := hid (@len_both e f)
  have HFB := hid (fun (q : both e f = true) (i : Nat) (x y : Bd) (hx : e[i]? = some x) (hy : f[i]? = some y) => fits_both q hx hy)
  clear hR h h' c1 hs hs' r1
  generalize both e f = bt at *
  generalize hL : e.length = L at *
  generalize hL' : f.length = L' at *
  have HL := hid hL
  have HL' := hid hL'
  clear hL hL'
  cases bt
  · have HN : Hid (R = false) := hid (by rw [← HR0.out]; rfl)
    clear HR0
    go_enter Tryd.func9, Tryd.ntmps9
    go_wp2_with fail
    refine Q1.out.mono ?_
    rintro e0 W2 ⟨rfl, hb2⟩
    have H2 := hid hb2
    clear hb2 Q1
    go_wp2_with fail
    go_ret
    exact ⟨ret_bool HN.out.symm, H2.out⟩
  obtain rfl : L = L' := HLB.out rfl
  have HFT := hid (HFB.out rfl)
  have HR : Hid (((e.drop 0).zip (f.drop 0)).all atMostB = R) := hid (by rw [← HR0.out, List.drop_zero, List.drop_zero]; rfl)
  clear HR0 HLB HFB
  go_enter Tryd.func9, Tryd.ntmps9
  go_wp2_with fail
  refine Q1.out.mono ?_
  rintro e0 W2 ⟨rfl, hb2⟩
  have H3 := hid hb2
  clear hb2 Q1
  go_wp2_with fail
  go_loopg [5] L (fun gf u wx => ∃ j : Nat, u = .int .i64 (j : Int) ∧ j ≤ L ∧ L ≤ j + gf ∧ Hid (((e.drop j).zip (f.drop j)).all atMostB = R) ∧ Hid (Below w.heap.size w wx))
  case atStart => exact ⟨0, rfl, by omega, by omega, HR, H3⟩
  case round =>
    obtain ⟨j, rfl, hj, hg2, HJ, HB⟩ := hrel
    clear HR
    have hbw := HB.out
    by_cases hlt2 : j < L
    · obtain ⟨x, hx⟩ : ∃ x, e[j]? = some x := ⟨e[j]'(by rw [HL.out]; exact hlt2), List.getElem?_eq_getElem _⟩
      obtain ⟨y, hy⟩ : ∃ y, f[j]? = some y := ⟨f[j]'(by rw [HL'.out]; exact hlt2), List.getElem?_eq_getElem _⟩
      obtain ⟨b, off, c0, e', _, hxx⟩ := Lies.at (HE.out.1.keep (Keeps.of_below hbw)) (i := j) (by rw [List.length_map, HL.out]; exact hlt2)
      obtain ⟨b2, off2, c2, e'', _, hyy⟩ := Lies.at (HF.out.1.keep (Keeps.of_below hbw)) (i := j) (by rw [List.length_map, HL'.out]; exact hlt2)
      injection e' with e1 e2 e3
      injection e'' with e4 e5 e6
      subst e1 e4
      clear e2 e3 e5 e6
      have hxc := hxx j x.cells (by rw [List.getElem?_map, hx]; rfl)
      have hyc := hyy j y.cells (by rw [List.getElem?_map, hy]; rfl)
      have hxt : ∀ (a : Nat) (u : Value), x.ty.cells[a]? = some u → wr.cell? ⟨b, off + j * 6 + 1 + a, none⟩ = some u := fun a u hu => by
        have := hxc (1 + a) u (by unfold Bd.cells; rw [List.getElem?_append_right (by simp)]; simpa using hu)
        rw [Nat.add_assoc (off + j * 6)]; exact this
      have hyt : ∀ (a : Nat) (u : Value), y.ty.cells[a]? = some u → wr.cell? ⟨b2, off2 + j * 6 + 1 + a, none⟩ = some u := fun a u hu => by
        have := hyc (1 + a) u (by unfold Bd.cells; rw [List.getElem?_append_right (by simp)]; simpa using hu)
        rw [Nat.add_assoc (off2 + j * 6)]; exact this
      have CY := hid (fun (d : Nat) (os : Array Obj) => Calls.regrown_of (C1.out x (List.mem_of_getElem? hx) y (List.mem_of_getElem? hy) (HFT.out j x y hx hy) (grow (redrawn wr d) os) (hbw.trans ((below_regrown wr d os).mono hbw.size))))
      change Hid (∀ d os, Calls _ _ #[.agg x.ty.cells.toArray, .agg y.ty.cells.toArray] _ _) at CY
      have KX := hid (reg_cells hxt)
      have KY := hid (reg_cells hyt)
      have ZX := hid (tySize x.ty)
      have ZY := hid (tySize y.ty)
      have hp := HJ.out
      rw [drop_cons hx, drop_cons hy, List.zip_cons_cons, List.all_cons] at hp
      unfold atMostB at hp
      dsimp only at hp
      generalize lessT x.ty y.ty = q at *
      generalize x.ty.cells = xcs at *
      generalize y.ty.cells = ycs at *
      have HP := hid hp
      have HBW2 := hid hbw
      have i1 : (j : Int) < (L : Int) := by omega
      have i0 : (0 : Int) ≤ (j : Int) := by omega
      clear hx hy hxx hyy hxc hyc hxt hyt hp HJ hbw
      go_wp2_with fail
      refine wp_region_quiet_below (by kernel_rfl) (by kernel_rfl) ?_
      repeat (first | ((with_reducible refine wpQuiet_load_at (o := ⟨some 20, _, _, _, _, _⟩) rfl _ _ rfl b (off + j * 6 + 1) rfl xcs _ KX.out Tryd.underlying31 rfl ZX.out ?_); simp only [Act.put, List.setIfInBounds_toArray, List.set_cons_zero, List.set_cons_succ]) | ((with_reducible refine wpQuiet_load_at (o := ⟨some 25, _, _, _, _, _⟩) rfl _ _ rfl b2 (off2 + j * 6 + 1) rfl ycs _ KY.out Tryd.underlying31 rfl ZY.out ?_); simp only [Act.put, List.setIfInBounds_toArray, List.set_cons_zero, List.set_cons_succ]) | go_big_quiet_step (first | (with_reducible exact CY.out _ _)))
      refine wpQuiet_nil ?_
      intro _ hw'
      obtain ⟨⟨dq, osq⟩, hw''⟩ := hw'
      subst hw''
      have B3 := hid (HB.out.trans ((below_regrown wr dq osq).mono HB.out.size))
      clear HB CY KX KY HBW2
      cases q
      · have HN : Hid (R = false) := hid (by rw [← HP.out]; rfl)
        clear HP
        go_wp2_with fail
        go_ret
        exact ⟨ret_bool HN.out.symm, B3.out⟩
      · have HN : Hid (((e.drop (j + 1)).zip (f.drop (j + 1))).all atMostB = R) := hid (by rw [← HP.out]; rfl)
        clear HP
        go_wp2_with fail
        go_roundg (gk - 1)
        case measure => omega
        case rel => exact ⟨j + 1, by go_num, by omega, by omega, HN, B3⟩
    · have HN : Hid (R = true) := hid (by rw [← HJ.out, List.drop_eq_nil_of_le (by rw [HL.out]; omega), List.drop_eq_nil_of_le (by rw [HL'.out]; omega)]; rfl)
      clear HJ hbw
      go_wp2_with fail
      go_ret
      exact ⟨ret_bool HN.out.symm, HB.out⟩
end Go.Proofs.YtannfhbocfghkaaDoor.EnvC
