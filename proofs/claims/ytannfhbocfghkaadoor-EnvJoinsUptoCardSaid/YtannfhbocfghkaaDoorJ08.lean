/- The document's RightTy (lienbookref05); made by gen_je.py. -/
import Derived.Test.YtannfhbocfghkaaDoorJ07
import Derived.Test.YtannfhbocfghkaaDoorJ06
namespace Go.Proofs.YtannfhbocfghkaaDoor.EnvC
open Go Go.RowKit Go.Lib Go.Sort Go.Proofs.YtannfhbocfghkaaDoor.EnvP

theorem rBefore_reg {w W : World} (y x : Ln) (hb : Below w.heap.size w W) (hy : y.pl.In w) (hx : x.pl.In w) (hly : y.pl.steps.length ≤ 1048576) (hlx : x.pl.steps.length ≤ 1048576) (d : Nat) (os : Array Obj) :
    Calls Tryd.prog 37 #[.agg y.cells.toArray, .agg x.cells.toArray] (grow (redrawn W d) os) fun e w'' => e = .returned (.bool (before y x)) ∧ ∃ p : Regrown, w'' = grow (redrawn W p.d) p.os :=
  Calls.regrown_of (rBefore_any y x _ (hy.keep (regKeeps hb d os)) (hx.keep (regKeeps hb d os)) hly hlx)
theorem one_kid {kids : List ETy} {N : Nat} (h : kids.length = N) (h1 : N = 1) : ∃ y, kids = [y] := by
  match kids, h with
  | [y], _ => exact ⟨y, rfl⟩
  | [], h => simp at h; omega
  | _ :: _ :: _, h => simp at h; omega

set_option maxHeartbeats 16000000 in
set_option maxRecDepth 100000 in
theorem rRightT_any : ∀ (n : Nat) (t : ETy) (w : World), wT t ≤ n → n ≤ 1048576 → t.In w →
    Calls Tryd.prog 22 #[t.val] w fun r w' => r = .returned (.bool (rightT t)) ∧ Below w.heap.size w w' := by
  intro n
  induction n using Nat.strongRecOn with
  | ind n ih =>
    intro t w hw hn ht
    have hsm : Small t := by unfold Small; omega
    have hsl := hsm.loans
    obtain ⟨k, m, g, lv, ls, kv, kids⟩ := t
    rw [ETy.In] at ht
    obtain ⟨pl, cl, hcl, rfl⟩ := lies_slice ht.1
    obtain ⟨pk, ck, hck, rfl⟩ := lies_slice ht.2.2.1
    rw [wT] at hw
    have hkl := kids_len kids
    have hLb : ls.length ≤ 1048576 := hsl.1
    have hNb : kids.length ≤ 1048576 := by omega
    obtain ⟨R, hR⟩ : ∃ R, rightT (.mk k m g (.slice pl ls.length cl) ls (.slice pk kids.length ck) kids) = R := ⟨_, rfl⟩
    rw [hR]
    rw [rightT] at hR
    unfold askT at hR
    have hwx : ∀ x ∈ kids, wT x ≤ 1048576 ∧ wT x < n := fun x hx => by have := mem_sum wT hx; rw [← wTs_sum] at this; omega
    have ihk := fun (x : ETy) (hx : x ∈ kids) (W : World) (hb : Below w.heap.size w W) => ih (wT x) (hwx x hx).2 x W (Nat.le_refl _) (hwx x hx).1 (ETy.In.keep (Keeps.of_below hb) x ((ETy.ins_iff w kids).1 ht.2.2.2 x hx))
    have ihr := fun (x : ETy) (hx : x ∈ kids) (W : World) (hb : Below w.heap.size w W) => rRefs_any (wT x) x W (Nat.le_refl _) (hwx x hx).1 (ETy.In.keep (Keeps.of_below hb) x ((ETy.ins_iff w kids).1 ht.2.2.2 x hx))
    have ihl := fun (x : ETy) (hx : x ∈ kids) (W : World) (hb : Below w.heap.size w W) => rLost_any (wT x) x W (Nat.le_refl _) (hwx x hx).1 (ETy.In.keep (Keeps.of_below hb) x ((ETy.ins_iff w kids).1 ht.2.2.2 x hx))
    have ihb := fun (y : Ln) (hy : y ∈ ls) (x : Ln) (hx : x ∈ ls) (W : World) (hb : Below w.heap.size w W) => rBefore_reg y x hb (ht.2.1 y hy) (ht.2.1 x hx) (hsl.2 y hy) (hsl.2 x hx)
    change Calls _ _ #[.agg #[.int .i64 k, .bool m, .bool g, .slice pl ls.length cl, .slice pk kids.length ck]] _ _
    generalize hL : ls.length = L at *
    generalize hN : kids.length = N at *
    have X1 := BoxAt.new w [.int .i64 k, .bool m, .bool g, .slice pl L cl, .slice pk N ck] 31
    have bA : Below w.heap.size w (w.alloc (.cells #[.int .i64 k, .bool m, .bool g, .slice pl L cl, .slice pk N ck] 31 (0, 0))) := (Below.refl _ _).alloc (Nat.le_refl _) _
    change BoxAt (w.alloc (.cells #[.int .i64 k, .bool m, .bool g, .slice pl L cl, .slice pk N ck] 31 (0, 0))) _ _ at X1
    have HB0 := hid bA
    have HX := hid X1
    have HT := hid ht
    have HIK := hid ihk
    have HIR := hid ihr
    have HIL := hid ihl
    have HIB := hid ihb
    have HL := hid (And.intro hL hN)
    clear bA X1 ht ihk ihr ihl ihb hL hN ih hw hkl hwx hsm hsl
    by_cases h4 : k = 4
    · subst h4
      rw [if_pos rfl] at hR
      change (rightTs kids && (riseAt ls 0 && (N == 1 && !refsTs kids && !lostTs kids && (m || !g)))) = R at hR
      generalize hRST : (N == 1 && !refsTs kids && !lostTs kids && (m || !g)) = REST at *
      have HRST := hid hRST
      clear hRST
      generalize hA : (riseAt ls 0 && REST) = ASK at *
      have HA := hid hA
      have HR : Hid ((rightTs (kids.drop 0) && ASK) = R) := hid (by rw [List.drop_zero]; exact hR)
      clear hR hA
      go_enter Tryd.func22, Tryd.ntmps22
      go_wp2_with fail
      generalize World.alloc w _ = W1 at *
      go_loopg [3] N (fun gf u wx => ∃ i : Nat, u = .int .i64 (i : Int) ∧ i ≤ N ∧ N ≤ i + gf ∧ Hid ((rightTs (kids.drop i) && ASK) = R) ∧ Hid (Below W1.heap.size W1 wx))
      case atStart => exact ⟨0, rfl, by omega, by omega, HR, hid (Below.refl _ _)⟩
      case round =>
        obtain ⟨i, rfl, hi, hg, HI, HB⟩ := hrel
        clear HR
        have z4 := HX.out.later HB.out 4 (.slice pk N ck) rfl
        have hbw := HB0.out.trans (HB.out.mono HB0.out.size)
        by_cases hlt : i < N
        · obtain ⟨y, hy⟩ : ∃ y, kids[i]? = some y := ⟨kids[i]'(by rw [HL.out.2]; exact hlt), List.getElem?_eq_getElem _⟩
          have hp := HI.out
          rw [drop_cons hy, rightTs] at hp
          obtain ⟨b, off, c0, e, _, hyy⟩ := Lies.at (HT.out.2.2.1.keep (Keeps.of_below hbw)) (i := i) (by rw [List.length_map, HL.out.2]; exact hlt)
          injection e with e1 e2 e3
          subst e1
          clear e2 e3
          have hyc := hyy i y.cells (by rw [List.getElem?_map, hy]; rfl)
          have CY := hid (HIK.out y (List.mem_of_getElem? hy) wr hbw)
          change Hid (Calls _ _ #[.agg y.cells.toArray] _ _) at CY
          have KY := hid hyc
          have ZY := hid (tySize y)
          generalize rightT y = q at *
          generalize y.cells = ycs at *
          have HP := hid hp
          have i1 : (i : Int) < (N : Int) := by omega
          have i0 : (0 : Int) ≤ (i : Int) := by omega
          have HBW := hid hbw
          clear hy hyy hyc hp HI hbw
          go_wp2_with (with_reducible refine wpList_load_at (o := ⟨some 18, _, _, _, _, _⟩) rfl _ _ rfl b (off + i * 5) rfl ycs _ KY.out Tryd.underlying31 rfl ZY.out ?_)
          with_reducible refine CY.out.mono ?_
          rintro e3 W3 ⟨rfl, hb3⟩
          have B3 := hid (HB.out.trans (hb3.mono HB.out.size))
          have B4 := hid (HBW.out.trans (hb3.mono HBW.out.size))
          clear HB HBW CY KY z4 hb3
          cases q
          · have HN : Hid (R = false) := hid (by rw [← HP.out]; rfl)
            clear HP
            go_wp2_with fail
            go_ret
            exact ⟨ret_bool HN.out.symm, B4.out⟩
          · have HN : Hid ((rightTs (kids.drop (i + 1)) && ASK) = R) := hid (by rw [← HP.out]; rfl)
            clear HP
            go_wp2_with fail
            go_roundg (gk - 1)
            case measure => omega
            case rel => exact ⟨i + 1, by go_num, by omega, by omega, HN, B3⟩
        · have HRR : Hid (ASK = R) := hid (by have := HI.out; rw [List.drop_eq_nil_of_le (by rw [HL.out.2]; omega), rightTs, Bool.true_and] at this; exact this)
          have HBW := hid hbw
          have HBB := hid HB.out
          have z0 := HX.out.later HB.out 0 _ rfl
          have z1 := HX.out.later HB.out 1 _ rfl
          have z2 := HX.out.later HB.out 2 _ rfl
          have z3 := HX.out.later HB.out 3 _ rfl
          clear HI hbw HB HIK
          replace HRR : Hid ((riseAt ls 0 && REST) = R) := hid (by rw [HA.out]; exact HRR.out)
          clear HA
          go_wp2_with fail
          generalize hwq : wr = wq at *
          clear hwq
          clear z0 z1 z2 z3 z4
          go_loopg [5] L (fun gf u wx => ∃ j : Nat, u = .int .i64 (j : Int) ∧ j ≤ L ∧ L ≤ j + gf ∧ Hid ((riseAt ls j && REST) = R) ∧ Hid (Below wq.heap.size wq wx))
          case atStart => exact ⟨0, rfl, by omega, by omega, HRR, hid (Below.refl _ _)⟩
          case round =>
            obtain ⟨j, rfl, hj, hg2, HJ, HB⟩ := hrel
            clear HRR
            have hbx := HBB.out.trans (HB.out.mono HBB.out.size)
            have hbw := HBW.out.trans (HB.out.mono HBW.out.size)
            have z3 := HX.out.later hbx 3 (.slice pl L cl) rfl
            by_cases hlt2 : j < L
            · obtain ⟨x, hx⟩ : ∃ x, ls[j]? = some x := ⟨ls[j]'(by rw [HL.out.1]; exact hlt2), List.getElem?_eq_getElem _⟩
              obtain ⟨b, off, c0, e, _, hxx⟩ := Lies.at (HT.out.1.keep (Keeps.of_below hbw)) (i := j) (by rw [List.length_map, HL.out.1]; exact hlt2)
              injection e with e1 e2 e3
              subst e1
              clear e2 e3
              have hxm := List.mem_of_getElem? hx
              have hxin := (HT.out.2.1 x hxm).keep (Keeps.of_below hbw)
              have hxc := hxx j x.cells (by rw [List.getElem?_map, hx]; rfl)
              have ho := ln_ones hxin
              unfold Ones at ho
              obtain ⟨xp, xq, _, ex⟩ : ∃ pp pq, x.pl.steps.length ≤ pq ∧ x.pl.sv = .slice pp x.pl.steps.length pq := lies_slice hxin
              have hrl : rightLn x = ((x.life.toList == []) || ((x.pl.var.toList == []) && x.pl.steps.length == 0 && !x.mt)) := by unfold rightLn; rw [emp, emp]
              have hstep : (j = 0 ∧ riseAt ls j = (rightLn x && riseAt ls (j + 1))) ∨ (0 < j ∧ ∃ y, ls[j - 1]? = some y ∧ riseAt ls j = (rightLn x && before y x && riseAt ls (j + 1))) := by
                by_cases h0 : j = 0
                · left; subst h0; exact ⟨rfl, rise_zero hx⟩
                · right
                  obtain ⟨k, rfl⟩ : ∃ k, j = k + 1 := ⟨j - 1, by omega⟩
                  obtain ⟨y, hy⟩ : ∃ y, ls[k]? = some y := ⟨ls[k]'(by have := HL.out.1; omega), List.getElem?_eq_getElem _⟩
                  exact ⟨by omega, y, hy, rise_succ hx hy⟩
              have hib := fun (y : Ln) (hy : y ∈ ls) => HIB.out y hy x hxm
              obtain ⟨xl, ⟨xv, xs, xt⟩, xm⟩ := x
              dsimp only at ex hrl hib
              subst ex
              change ∀ y : Ln, y ∈ ls → ∀ W, Below w.heap.size w W → ∀ d os, Calls _ _ #[.agg y.cells.toArray, .agg #[.string xl, .string xv, .slice xp xt.length xq, .bool xm]] _ _ at hib
              change ∀ (a : Nat) (u : Value), ([.string xl, .string xv, .slice xp xt.length xq, .bool xm] : List Value)[a]? = some u → _ at hxc
              change (([.string xl, .string xv, .slice xp xt.length xq, .bool xm] : List Value).toArray.all (·.oneCell')) = true at ho
              generalize hxt : xt.length = XN at *
              have ZF : Hid ((Tryd.prog.info? 44).map (·.size) = some ([.string xl, .string xv, .slice xp XN xq, .bool xm] : List Value).length) := hid (show (Tryd.prog.info? 44).map (·.size) = some 4 by kernel_rfl)
              have HPX := hid hxc
              have HO := hid ho
              have HIB2 := hid hib
              have HRL := hid hrl
              have HST := hid hstep
              have i1 : (j : Int) < (L : Int) := by omega
              have i0 : (0 : Int) ≤ (j : Int) := by omega
              have HBW2 := hid hbw
              have HXX := hid hxx
              clear hx hxm hxin hxc ho hrl hstep hib hbw hbx hxx
              go_wp2_with (first | (with_reducible refine wpList_load_at (o := ⟨some 38, _, _, _, _, _⟩) rfl _ _ rfl b (off + j * 4) rfl [.string xl, .string xv, .slice xp XN xq, .bool xm] _ HPX.out Tryd.underlying44 rfl ZF.out ?_))
              generalize hV : World.alloc wr _ = V at *
              have bV : Below wr.heap.size wr V := by rw [← hV]; exact (Below.refl _ _).alloc (Nat.le_refl _) _
              have BX : BoxAt V wr.heap.size [.string xl, .string xv, .slice xp XN xq, .bool xm] := by rw [← hV]; exact BoxAt.new wr _ _
              have k0 := cell_regrown (box_get BX (j := 0) rfl)
              have k1 := cell_regrown (box_get BX (j := 1) rfl)
              have k2 := cell_regrown (box_get BX (j := 2) rfl)
              have k3 := cell_regrown (box_get BX (j := 3) rfl)
              have m3 := cell_regrown (later bV z3)
              have B2 := hid (HB.out.trans (bV.mono HB.out.size))
              have C2 := hid (HBW2.out.trans (bV.mono HBW2.out.size))
              have bv := hid bV
              clear hV bV BX HPX HO ZF HB z3
              cases h1 : (xl.toList == [])
              case true =>
                have hrl : rightLn ⟨xl, ⟨xv, .slice xp XN xq, xt⟩, xm⟩ = true := by rw [HRL.out, h1]; simp
                rcases HST.out with ⟨h0, e⟩ | ⟨h0, y, hy, e⟩
                · have hd : decide (0 < j) = false := by simp; omega
                  have HN : Hid ((riseAt ls (j + 1) && REST) = R) := hid (by rw [← HJ.out, e, hrl]; rfl)
                  clear HJ HST HRL HIB2 HXX hrl e h0
                  refine wp_region_quiet_below (by kernel_rfl) (by kernel_rfl) ?_
                  repeat (first | go_big_quiet_step (first | fail))
                  refine wpQuiet_nil ?_
                  intro _ hw'
                  obtain ⟨⟨dq, osq⟩, hw''⟩ := hw'
                  subst hw''
                  have B3 := hid (B2.out.trans ((below_regrown V dq osq).mono B2.out.size))
                  have C3 := hid (C2.out.trans ((below_regrown V dq osq).mono C2.out.size))
                  clear k0 k1 k2 k3 m3 B2 C2
                  go_wp2_with fail
                  go_roundg (gk - 1)
                  case measure => omega
                  case rel => exact ⟨j + 1, by go_num, by omega, by omega, HN, B3⟩
                · have hd : decide (0 < j) = true := by simp; omega
                  have HP := hid (show ((before y ⟨xl, ⟨xv, .slice xp XN xq, xt⟩, xm⟩ && riseAt ls (j + 1)) && REST) = R by rw [← HJ.out, e, hrl]; simp)
                  have D := hid (HIB2.out y (List.mem_of_getElem? hy) V C2.out)
                  have KY := hid (reg_cells (off := off + (j - 1) * 4) (fun (a : Nat) (u : Value) (h : y.cells[a]? = some u) => Keeps.of_below bv.out _ _ _ (HXX.out (j - 1) y.cells (by rw [List.getElem?_map, hy]; rfl) a u h)))
                  have ZY := hid (lnSize y)
                  generalize before y ⟨xl, ⟨xv, .slice xp XN xq, xt⟩, xm⟩ = qb at *
                  generalize y.cells = ycs at *
                  have i3 : (0 : Int) ≤ (j : Int) - 1 := by omega
                  have i4 : ((j : Int) - 1).toNat = j - 1 := by omega
                  have i5 : (j : Int) - 1 < (L : Int) := by omega
                  clear HJ HST HRL HIB2 HXX hrl e h0 hy
                  refine wp_region_quiet_below (by kernel_rfl) (by kernel_rfl) ?_
                  repeat (first | ((with_reducible refine wpQuiet_load_at (o := ⟨some 68, _, _, _, _, _⟩) rfl _ _ rfl b (off + (j - 1) * 4) rfl ycs _ KY.out Tryd.underlying44 rfl ZY.out ?_); simp only [Act.put, List.setIfInBounds_toArray, List.set_cons_zero, List.set_cons_succ]) | go_big_quiet_step (first | fail | (with_reducible exact D.out _ _)))
                  refine wpQuiet_nil ?_
                  intro _ hw'
                  obtain ⟨⟨dq, osq⟩, hw''⟩ := hw'
                  subst hw''
                  have B3 := hid (B2.out.trans ((below_regrown V dq osq).mono B2.out.size))
                  have C3 := hid (C2.out.trans ((below_regrown V dq osq).mono C2.out.size))
                  clear k0 k1 k2 k3 m3 B2 C2
                  cases qb
                  · have HN : Hid (R = false) := hid (by rw [← HP.out]; rfl)
                    clear HP
                    go_wp2_with fail
                    go_ret
                    exact ⟨ret_bool HN.out.symm, C3.out⟩
                  · have HN : Hid ((riseAt ls (j + 1) && REST) = R) := hid (by rw [← HP.out]; rfl)
                    clear HP
                    go_wp2_with fail
                    go_roundg (gk - 1)
                    case measure => omega
                    case rel => exact ⟨j + 1, by go_num, by omega, by omega, HN, B3⟩
              case false =>
                cases xm
                case true =>
                  have hr : riseAt ls j = false := by
                    rcases HST.out with ⟨_, e⟩ | ⟨_, y, _, e⟩ <;> rw [e, HRL.out, h1] <;> simp
                  have HN : Hid (R = false) := hid (by rw [← HJ.out, hr]; rfl)
                  clear HJ HST HRL HIB2 HXX hr
                  refine wp_region_quiet_below (by kernel_rfl) (by kernel_rfl) ?_
                  repeat (first | go_big_quiet_step (first | fail))
                  refine wpQuiet_nil ?_
                  intro _ hw'
                  obtain ⟨⟨dq, osq⟩, hw''⟩ := hw'
                  subst hw''
                  have B3 := hid (B2.out.trans ((below_regrown V dq osq).mono B2.out.size))
                  have C3 := hid (C2.out.trans ((below_regrown V dq osq).mono C2.out.size))
                  clear k0 k1 k2 k3 m3 B2 C2
                  go_wp2_with fail
                  go_ret
                  exact ⟨ret_bool HN.out.symm, C3.out⟩
                case false =>
                  cases h2 : (xv.toList == [])
                  case false =>
                    have hr : riseAt ls j = false := by
                      rcases HST.out with ⟨_, e⟩ | ⟨_, y, _, e⟩ <;> rw [e, HRL.out, h1, h2] <;> simp
                    have HN : Hid (R = false) := hid (by rw [← HJ.out, hr]; rfl)
                    clear HJ HST HRL HIB2 HXX hr
                    refine wp_region_quiet_below (by kernel_rfl) (by kernel_rfl) ?_
                    repeat (first | go_big_quiet_step (first | fail))
                    refine wpQuiet_nil ?_
                    intro _ hw'
                    obtain ⟨⟨dq, osq⟩, hw''⟩ := hw'
                    subst hw''
                    have B3 := hid (B2.out.trans ((below_regrown V dq osq).mono B2.out.size))
                    have C3 := hid (C2.out.trans ((below_regrown V dq osq).mono C2.out.size))
                    clear k0 k1 k2 k3 m3 B2 C2
                    go_wp2_with fail
                    go_ret
                    exact ⟨ret_bool HN.out.symm, C3.out⟩
                  case true =>
                    by_cases h3 : XN = 0
                    · subst h3
                      have hd0 : decide ((0 : Int) < ((0 : Nat) : Int)) = false := by simp
                      have hrl : rightLn ⟨xl, ⟨xv, .slice xp 0 xq, xt⟩, false⟩ = true := by rw [HRL.out, h1, h2]; simp
                      rcases HST.out with ⟨h0, e⟩ | ⟨h0, y, hy, e⟩
                      · have hd : decide (0 < j) = false := by simp; omega
                        have HN : Hid ((riseAt ls (j + 1) && REST) = R) := hid (by rw [← HJ.out, e, hrl]; rfl)
                        clear HJ HST HRL HIB2 HXX hrl e h0
                        refine wp_region_quiet_below (by kernel_rfl) (by kernel_rfl) ?_
                        repeat (first | go_big_quiet_step (first | fail))
                        refine wpQuiet_nil ?_
                        intro _ hw'
                        obtain ⟨⟨dq, osq⟩, hw''⟩ := hw'
                        subst hw''
                        have B3 := hid (B2.out.trans ((below_regrown V dq osq).mono B2.out.size))
                        have C3 := hid (C2.out.trans ((below_regrown V dq osq).mono C2.out.size))
                        clear k0 k1 k2 k3 m3 B2 C2
                        go_wp2_with fail
                        go_roundg (gk - 1)
                        case measure => omega
                        case rel => exact ⟨j + 1, by go_num, by omega, by omega, HN, B3⟩
                      · have hd : decide (0 < j) = true := by simp; omega
                        have HP := hid (show ((before y ⟨xl, ⟨xv, .slice xp 0 xq, xt⟩, false⟩ && riseAt ls (j + 1)) && REST) = R by rw [← HJ.out, e, hrl]; simp)
                        have D := hid (HIB2.out y (List.mem_of_getElem? hy) V C2.out)
                        have KY := hid (reg_cells (off := off + (j - 1) * 4) (fun (a : Nat) (u : Value) (h : y.cells[a]? = some u) => Keeps.of_below bv.out _ _ _ (HXX.out (j - 1) y.cells (by rw [List.getElem?_map, hy]; rfl) a u h)))
                        have ZY := hid (lnSize y)
                        generalize before y ⟨xl, ⟨xv, .slice xp 0 xq, xt⟩, false⟩ = qb at *
                        generalize y.cells = ycs at *
                        have i3 : (0 : Int) ≤ (j : Int) - 1 := by omega
                        have i4 : ((j : Int) - 1).toNat = j - 1 := by omega
                        have i5 : (j : Int) - 1 < (L : Int) := by omega
                        clear HJ HST HRL HIB2 HXX hrl e h0 hy
                        refine wp_region_quiet_below (by kernel_rfl) (by kernel_rfl) ?_
                        repeat (first | ((with_reducible refine wpQuiet_load_at (o := ⟨some 68, _, _, _, _, _⟩) rfl _ _ rfl b (off + (j - 1) * 4) rfl ycs _ KY.out Tryd.underlying44 rfl ZY.out ?_); simp only [Act.put, List.setIfInBounds_toArray, List.set_cons_zero, List.set_cons_succ]) | go_big_quiet_step (first | fail | (with_reducible exact D.out _ _)))
                        refine wpQuiet_nil ?_
                        intro _ hw'
                        obtain ⟨⟨dq, osq⟩, hw''⟩ := hw'
                        subst hw''
                        have B3 := hid (B2.out.trans ((below_regrown V dq osq).mono B2.out.size))
                        have C3 := hid (C2.out.trans ((below_regrown V dq osq).mono C2.out.size))
                        clear k0 k1 k2 k3 m3 B2 C2
                        cases qb
                        · have HN : Hid (R = false) := hid (by rw [← HP.out]; rfl)
                          clear HP
                          go_wp2_with fail
                          go_ret
                          exact ⟨ret_bool HN.out.symm, C3.out⟩
                        · have HN : Hid ((riseAt ls (j + 1) && REST) = R) := hid (by rw [← HP.out]; rfl)
                          clear HP
                          go_wp2_with fail
                          go_roundg (gk - 1)
                          case measure => omega
                          case rel => exact ⟨j + 1, by go_num, by omega, by omega, HN, B3⟩
                    · have hd0 : decide (0 < XN) = true := by simp; omega
                      have hr : riseAt ls j = false := by
                        rcases HST.out with ⟨_, e⟩ | ⟨_, y, _, e⟩ <;> rw [e, HRL.out, h1, h2] <;> simp [h3]
                      have HN : Hid (R = false) := hid (by rw [← HJ.out, hr]; rfl)
                      clear HJ HST HRL HIB2 HXX hr
                      refine wp_region_quiet_below (by kernel_rfl) (by kernel_rfl) ?_
                      repeat (first | go_big_quiet_step (first | fail))
                      refine wpQuiet_nil ?_
                      intro _ hw'
                      obtain ⟨⟨dq, osq⟩, hw''⟩ := hw'
                      subst hw''
                      have B3 := hid (B2.out.trans ((below_regrown V dq osq).mono B2.out.size))
                      have C3 := hid (C2.out.trans ((below_regrown V dq osq).mono C2.out.size))
                      clear k0 k1 k2 k3 m3 B2 C2
                      go_wp2_with fail
                      go_ret
                      exact ⟨ret_bool HN.out.symm, C3.out⟩
            · have HRS : Hid (REST = R) := hid (by have := HJ.out; rw [rise_end (by rw [HL.out.1]; omega), Bool.true_and] at this; exact this)
              have z1 := HX.out.later hbx 1 _ rfl
              have z2 := HX.out.later hbx 2 _ rfl
              have z4 := HX.out.later hbx 4 _ rfl
              have z0 := HX.out.later hbx 0 _ rfl
              have HBW3 := hid hbw
              have HBB3 := hid hbx
              clear HJ HB hbx hbw HBW HBB HIB
              have HBW := HBW3
              have HRR := HRS
              have HA := HRST
              clear HBW3 HBB3 HRS HRST
              by_cases h1 : N = 1
              · obtain ⟨y, hyk⟩ := one_kid HL.out.2 h1
                have hrf : refsTs kids = (refsT y || false) := by rw [hyk]; rfl
                have hlo : lostTs kids = (lostT y || false) := by rw [hyk]; rfl
                have hym : y ∈ kids := by rw [hyk]; simp
                obtain ⟨b, off, c0, e, _, hyy⟩ := Lies.at (HT.out.2.2.1.keep (Keeps.of_below HBW.out)) (i := 0) (by rw [List.length_map, HL.out.2]; omega)
                injection e with e1 e2 e3
                subst e1
                clear e2 e3
                have hyc := hyy 0 y.cells (by rw [hyk]; rfl)
                rw [Nat.zero_mul, Nat.add_zero] at hyc
                have CR := hid (HIR.out y hym _ HBW.out)
                have CL := hid (fun W (q : Below wr.heap.size wr W) => HIL.out y hym W (HBW.out.trans (q.mono HBW.out.size)))
                change Hid (Calls _ _ #[.agg y.cells.toArray] _ _) at CR
                change Hid (∀ W, Below wr.heap.size wr W → Calls _ _ #[.agg y.cells.toArray] _ _) at CL
                have KY := hid hyc
                have ZY := hid (tySize y)
                rw [hrf, hlo, Bool.or_false, Bool.or_false] at HA
                generalize refsT y = q1 at *
                generalize lostT y = q2 at *
                generalize y.cells = ycs at *
                have h1' : (N : Int) = 1 := by omega
                have i1 : (0 : Int) < (N : Int) := by omega
                clear hrf hlo hyy hyc hyk hym
                go_wp2_with (with_reducible refine wpList_load_at (o := ⟨some 80, _, _, _, _, _⟩) rfl _ _ rfl b off rfl ycs _ KY.out Tryd.underlying31 rfl ZY.out ?_)
                with_reducible refine CR.out.mono ?_
                clear CR
                rintro e4 W4 ⟨rfl, hb4⟩
                cases q1
                rotate_left
                · have B4 := hid (HBW.out.trans (hb4.mono HBW.out.size))
                  go_wp2_with fail
                  go_ret
                  exact ⟨ret_bool (by rw [← HRR.out, ← HA.out]; simp [h1]), B4.out⟩
                have y4 := later hb4 z4
                have y1 := later hb4 z1
                have y2 := later hb4 z2
                have KY4 : Hid (∀ (j : Nat) (u : Value), ycs[j]? = some u → W4.cell? ⟨b, off + j, none⟩ = some u) := hid (fun j u h => later hb4 (KY.out j u h))
                have CL4 := hid (CL.out W4 hb4)
                have B4 := hid (HBW.out.trans (hb4.mono HBW.out.size))
                clear CL hb4 KY z0 z1 z2 z3 z4 HBW
                go_wp2_with (with_reducible refine wpList_load_at (o := ⟨some 88, _, _, _, _, _⟩) rfl _ _ rfl b off rfl ycs _ KY4.out Tryd.underlying31 rfl ZY.out ?_)
                with_reducible refine CL4.out.mono ?_
                clear CL4
                rintro e5 W5 ⟨rfl, hb5⟩
                have x1 := later hb5 y1
                have x2 := later hb5 y2
                have B5 := hid (B4.out.trans (hb5.mono B4.out.size))
                clear hb5 y1 y2 y4 KY4 B4
                cases q2 <;> cases m <;> cases g
                all_goals
                  go_wp2_with fail
                  go_ret
                  exact ⟨ret_bool (by rw [← HRR.out, ← HA.out]; simp [h1]), B5.out⟩
              · have h1' : ¬ (N : Int) = 1 := by omega
                go_wp2_with fail
                go_ret
                exact ⟨ret_bool (by rw [← HRR.out, ← HA.out]; simp [h1]), HBW.out⟩
    · rw [if_neg h4] at hR
      generalize hA : (!m && L == 0 && (if k = 1 then N == 0 && !g else if k = 2 then N == 1 && !refsTs kids && !lostTs kids else if k = 3 then decide (2 ≤ N) && decide (N ≤ 30) && !g else false)) = ASK at *
      have HA := hid hA
      have HR : Hid ((rightTs (kids.drop 0) && ASK) = R) := hid (by rw [List.drop_zero]; exact hR)
      clear hR hA
      go_enter Tryd.func22, Tryd.ntmps22
      go_wp2_with fail
      generalize World.alloc w _ = W1 at *
      go_loopg [3] N (fun gf u wx => ∃ i : Nat, u = .int .i64 (i : Int) ∧ i ≤ N ∧ N ≤ i + gf ∧ Hid ((rightTs (kids.drop i) && ASK) = R) ∧ Hid (Below W1.heap.size W1 wx))
      case atStart => exact ⟨0, rfl, by omega, by omega, HR, hid (Below.refl _ _)⟩
      case round =>
        obtain ⟨i, rfl, hi, hg, HI, HB⟩ := hrel
        clear HR
        have z4 := HX.out.later HB.out 4 (.slice pk N ck) rfl
        have hbw := HB0.out.trans (HB.out.mono HB0.out.size)
        by_cases hlt : i < N
        · obtain ⟨y, hy⟩ : ∃ y, kids[i]? = some y := ⟨kids[i]'(by rw [HL.out.2]; exact hlt), List.getElem?_eq_getElem _⟩
          have hp := HI.out
          rw [drop_cons hy, rightTs] at hp
          obtain ⟨b, off, c0, e, _, hyy⟩ := Lies.at (HT.out.2.2.1.keep (Keeps.of_below hbw)) (i := i) (by rw [List.length_map, HL.out.2]; exact hlt)
          injection e with e1 e2 e3
          subst e1
          clear e2 e3
          have hyc := hyy i y.cells (by rw [List.getElem?_map, hy]; rfl)
          have CY := hid (HIK.out y (List.mem_of_getElem? hy) wr hbw)
          change Hid (Calls _ _ #[.agg y.cells.toArray] _ _) at CY
          have KY := hid hyc
          have ZY := hid (tySize y)
          generalize rightT y = q at *
          generalize y.cells = ycs at *
          have HP := hid hp
          have i1 : (i : Int) < (N : Int) := by omega
          have i0 : (0 : Int) ≤ (i : Int) := by omega
          have HBW := hid hbw
          clear hy hyy hyc hp HI hbw
          go_wp2_with (with_reducible refine wpList_load_at (o := ⟨some 18, _, _, _, _, _⟩) rfl _ _ rfl b (off + i * 5) rfl ycs _ KY.out Tryd.underlying31 rfl ZY.out ?_)
          with_reducible refine CY.out.mono ?_
          rintro e3 W3 ⟨rfl, hb3⟩
          have B3 := hid (HB.out.trans (hb3.mono HB.out.size))
          have B4 := hid (HBW.out.trans (hb3.mono HBW.out.size))
          clear HB HBW CY KY z4 hb3
          cases q
          · have HN : Hid (R = false) := hid (by rw [← HP.out]; rfl)
            clear HP
            go_wp2_with fail
            go_ret
            exact ⟨ret_bool HN.out.symm, B4.out⟩
          · have HN : Hid ((rightTs (kids.drop (i + 1)) && ASK) = R) := hid (by rw [← HP.out]; rfl)
            clear HP
            go_wp2_with fail
            go_roundg (gk - 1)
            case measure => omega
            case rel => exact ⟨i + 1, by go_num, by omega, by omega, HN, B3⟩
        · have HRR : Hid (ASK = R) := hid (by have := HI.out; rw [List.drop_eq_nil_of_le (by rw [HL.out.2]; omega), rightTs, Bool.true_and] at this; exact this)
          have HBW := hid hbw
          have HBB := hid HB.out
          have z0 := HX.out.later HB.out 0 _ rfl
          have z1 := HX.out.later HB.out 1 _ rfl
          have z2 := HX.out.later HB.out 2 _ rfl
          have z3 := HX.out.later HB.out 3 _ rfl
          clear HI hbw HB HIK
          clear HIB
          cases m
          case true =>
            go_wp2_with fail
            go_ret
            exact ⟨ret_bool (by rw [← HRR.out, ← HA.out]; simp []), HBW.out⟩
          case false =>
            by_cases hl0 : L = 0
            rotate_left
            · have d0 : decide (0 < L) = true := by simp; omega
              go_wp2_with fail
              go_ret
              exact ⟨ret_bool (by rw [← HRR.out, ← HA.out]; simp [hl0]), HBW.out⟩
            subst hl0
            by_cases k1 : k = 1
            · subst k1
              by_cases h0 : N = 0
              · subst h0
                cases g
                all_goals
                  go_wp2_with fail
                  go_ret
                  exact ⟨ret_bool (by rw [← HRR.out, ← HA.out]; simp []), HBW.out⟩
              · have h0' : ¬ (N : Int) = 0 := by omega
                go_wp2_with fail
                go_ret
                exact ⟨ret_bool (by rw [← HRR.out, ← HA.out]; simp [h0]), HBW.out⟩
            by_cases k2 : k = 2
            · subst k2
              by_cases h1 : N = 1
              · obtain ⟨y, hyk⟩ := one_kid HL.out.2 h1
                have hrf : refsTs kids = (refsT y || false) := by rw [hyk]; rfl
                have hlo : lostTs kids = (lostT y || false) := by rw [hyk]; rfl
                have hym : y ∈ kids := by rw [hyk]; simp
                obtain ⟨b, off, c0, e, _, hyy⟩ := Lies.at (HT.out.2.2.1.keep (Keeps.of_below HBW.out)) (i := 0) (by rw [List.length_map, HL.out.2]; omega)
                injection e with e1 e2 e3
                subst e1
                clear e2 e3
                have hyc := hyy 0 y.cells (by rw [hyk]; rfl)
                rw [Nat.zero_mul, Nat.add_zero] at hyc
                have CR := hid (HIR.out y hym _ HBW.out)
                have CL := hid (fun W (q : Below wr.heap.size wr W) => HIL.out y hym W (HBW.out.trans (q.mono HBW.out.size)))
                change Hid (Calls _ _ #[.agg y.cells.toArray] _ _) at CR
                change Hid (∀ W, Below wr.heap.size wr W → Calls _ _ #[.agg y.cells.toArray] _ _) at CL
                have KY := hid hyc
                have ZY := hid (tySize y)
                rw [hrf, hlo, Bool.or_false, Bool.or_false] at HA
                generalize refsT y = q1 at *
                generalize lostT y = q2 at *
                generalize y.cells = ycs at *
                have h1' : (N : Int) = 1 := by omega
                have i1 : (0 : Int) < (N : Int) := by omega
                clear hrf hlo hyy hyc hyk hym
                go_wp2_with (with_reducible refine wpList_load_at (o := ⟨some 128, _, _, _, _, _⟩) rfl _ _ rfl b off rfl ycs _ KY.out Tryd.underlying31 rfl ZY.out ?_)
                with_reducible refine CR.out.mono ?_
                clear CR
                rintro e4 W4 ⟨rfl, hb4⟩
                cases q1
                rotate_left
                · have B4 := hid (HBW.out.trans (hb4.mono HBW.out.size))
                  go_wp2_with fail
                  go_ret
                  exact ⟨ret_bool (by rw [← HRR.out, ← HA.out]; simp [h1]), B4.out⟩
                have y4 := later hb4 z4
                have y1 := later hb4 z1
                have y2 := later hb4 z2
                have KY4 : Hid (∀ (j : Nat) (u : Value), ycs[j]? = some u → W4.cell? ⟨b, off + j, none⟩ = some u) := hid (fun j u h => later hb4 (KY.out j u h))
                have CL4 := hid (CL.out W4 hb4)
                have B4 := hid (HBW.out.trans (hb4.mono HBW.out.size))
                clear CL hb4 KY z0 z1 z2 z3 z4 HBW HBB
                go_wp2_with (with_reducible refine wpList_load_at (o := ⟨some 136, _, _, _, _, _⟩) rfl _ _ rfl b off rfl ycs _ KY4.out Tryd.underlying31 rfl ZY.out ?_)
                with_reducible refine CL4.out.mono ?_
                clear CL4
                rintro e5 W5 ⟨rfl, hb5⟩
                have x1 := later hb5 y1
                have x2 := later hb5 y2
                have B5 := hid (B4.out.trans (hb5.mono B4.out.size))
                clear hb5 y1 y2 y4 KY4 B4
                cases q2
                all_goals
                  cases g
                  all_goals
                    go_wp2_with fail
                    go_ret
                    exact ⟨ret_bool (by rw [← HRR.out, ← HA.out]; simp [h1]), B5.out⟩
              · have h1' : ¬ (N : Int) = 1 := by omega
                go_wp2_with fail
                go_ret
                exact ⟨ret_bool (by rw [← HRR.out, ← HA.out]; simp [h1]), HBW.out⟩
            by_cases k3 : k = 3
            · subst k3
              by_cases h2 : 2 ≤ N
              · have d2 : decide (2 ≤ N) = true := by simp [h2]
                by_cases h30 : N ≤ 30
                · have d30 : decide (N ≤ 30) = true := by simp [h30]
                  cases g
                  all_goals
                    go_wp2_with fail
                    go_ret
                    exact ⟨ret_bool (by rw [← HRR.out, ← HA.out]; simp [h2, h30]), HBW.out⟩
                · have d30 : decide (N ≤ 30) = false := by simp; omega
                  go_wp2_with fail
                  go_ret
                  exact ⟨ret_bool (by rw [← HRR.out, ← HA.out]; simp [h30]), HBW.out⟩
              · have d2 : decide (2 ≤ N) = false := by simp; omega
                go_wp2_with fail
                go_ret
                exact ⟨ret_bool (by rw [← HRR.out, ← HA.out]; simp [h2]), HBW.out⟩
            go_wp2_with fail
            go_ret
            exact ⟨ret_bool (by rw [← HRR.out, ← HA.out]; simp [k1, k2, k3]), HBW.out⟩
end Go.Proofs.YtannfhbocfghkaaDoor.EnvC
