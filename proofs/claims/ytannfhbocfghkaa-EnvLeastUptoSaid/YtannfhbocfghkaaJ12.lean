/- Texts joined: EnvT, EnvU, EnvX. -/
import Derived.Test.YtannfhbocfghkaaJ02
import Derived.Test.YtannfhbocfghkaaJ11
/- Contracts of the document's hit and Hit (lienbookref05). -/
namespace Go.Proofs.Ytannfhbocfghkaa.EnvC
open Go Go.RowKit Go.Lib Go.Sort Go.Proofs.Ytannfhbocfghkaa.EnvP

theorem rOverlap_reg {w W : World} (x y : Pl) (hb : Below w.heap.size w W) (hx : x.In w) (hy : y.In w) (hlx : x.steps.length ≤ 1048576) (hly : y.steps.length ≤ 1048576) :
    Calls Try.prog 8 #[.agg #[.string x.var, x.sv], .agg #[.string y.var, y.sv]] W fun r w' => r = .returned (.bool (overlap x y)) ∧ Below W.heap.size W w' :=
  rOverlap_any x y W (hx.keep (Keeps.of_below hb)) (hy.keep (Keeps.of_below hb)) hlx hly

set_option maxHeartbeats 8000000 in
set_option maxRecDepth 100000 in
theorem rhit_any : ∀ (n : Nat) (t : ETy) (p : Pl) (wr : Bool) (w : World), wT t ≤ n → n ≤ 1048576 → t.In w → p.In w → p.steps.length ≤ 1048576 →
    Calls Try.prog 27 #[t.val, p.val, .bool wr] w fun r w' => r = .returned (.bool (hitT p wr t)) ∧ Below w.heap.size w w' := by
  intro n
  induction n using Nat.strongRecOn with
  | ind n ih =>
    intro t p wt w hw hn ht hp hps
    have hsm : Small t := by unfold Small; omega
    have hsl := hsm.loans
    obtain ⟨k, m, g, lv, ls, kv, kids⟩ := t
    rw [ETy.In] at ht
    obtain ⟨pl, cl, hcl, rfl⟩ := lies_slice ht.1
    obtain ⟨pk, ck, hck, rfl⟩ := lies_slice ht.2.2.1
    rw [wT] at hw
    have hkl := kids_len kids
    have hLb : ls.length ≤ 1048576 := hsl.1
    have hNb : kids.length ≤ 1048576 := by omega
    clear hkl
    obtain ⟨R, hR⟩ : ∃ R, hitT p wt (.mk k m g (.slice pl ls.length cl) ls (.slice pk kids.length ck) kids) = R := ⟨_, rfl⟩
    rw [hR]
    rw [hitT] at hR
    obtain ⟨pc, pq, hpq, hpe⟩ : ∃ pp pq, p.steps.length ≤ pq ∧ p.sv = .slice pp p.steps.length pq := lies_slice hp
    have ihk := fun (x : ETy) (hx : x ∈ kids) (W : World) (hb : Below w.heap.size w W) => ih (wT x) (by have := mem_sum wT hx; rw [← wTs_sum] at this; omega) x p wt W (Nat.le_refl _) (by have := mem_sum wT hx; rw [← wTs_sum] at this; omega) (ETy.In.keep (Keeps.of_below hb) x ((ETy.ins_iff w kids).1 ht.2.2.2 x hx)) (hp.keep (Keeps.of_below hb)) hps
    have ihl := fun (x : Ln) (hx : x ∈ ls) (W : World) (hb : Below w.heap.size w W) => rOverlap_reg x.pl p hb (ht.2.1 x hx) hp (hsl.2 x hx) hps
    change Calls _ _ #[.agg #[.int .i64 k, .bool m, .bool g, .slice pl ls.length cl, .slice pk kids.length ck], .agg #[.string p.var, p.sv], .bool wt] _ _
    change ∀ x ∈ kids, ∀ W, Below w.heap.size w W → Calls _ _ #[_, .agg #[.string p.var, p.sv], .bool wt] _ _ at ihk
    rw [hpe] at ihk ihl ⊢
    generalize hL : ls.length = L at *
    generalize hN : kids.length = N at *
    generalize p.steps.length = PS at *
    generalize p.var = pv at *
    have bA : Below w.heap.size w ((w.alloc (.cells #[.int .i64 k, .bool m, .bool g, .slice pl L cl, .slice pk N ck] 43 (0, 0))).alloc (.cells #[.string pv, .slice pc PS pq] 25 (0, 0))) := ((Below.refl _ _).alloc (Nat.le_refl _) _).alloc (by simp) _
    have X1 : BoxAt ((w.alloc (.cells #[.int .i64 k, .bool m, .bool g, .slice pl L cl, .slice pk N ck] 43 (0, 0))).alloc (.cells #[.string pv, .slice pc PS pq] 25 (0, 0))) w.heap.size [.int .i64 k, .bool m, .bool g, .slice pl L cl, .slice pk N ck] := (BoxAt.new w _ _).later ((Below.refl _ _).alloc (Nat.le_refl _) _)
    have X2 : BoxAt ((w.alloc (.cells #[.int .i64 k, .bool m, .bool g, .slice pl L cl, .slice pk N ck] 43 (0, 0))).alloc (.cells #[.string pv, .slice pc PS pq] 25 (0, 0))) (w.heap.size + 1) [.string pv, .slice pc PS pq] := by
      have := BoxAt.new (w.alloc (.cells #[.int .i64 k, .bool m, .bool g, .slice pl L cl, .slice pk N ck] 43 (0, 0))) [.string pv, .slice pc PS pq] 25
      rwa [World.size_alloc] at this
    have HB0 := hid bA
    have HX := hid (And.intro X1 X2)
    have HT := hid ht
    have HIK := hid ihk
    have HIL := hid ihl
    have HL := hid (And.intro hL hN)
    have HR : Hid (((ls.drop 0).any (hitLn p wt) || hitTs p wt kids) = R) := hid (by rw [List.drop_zero]; exact hR)
    clear bA X1 X2 ht ihk ihl hL hN hR ih hw hsm hsl hp hpe
    go_enter Try.func27, Try.ntmps27
    go_wp2_with fail
    generalize (World.alloc (World.alloc w _) _) = W1 at *
    go_loopg [7] L (fun gf u wx => ∃ i : Nat, u = .int .i64 (i : Int) ∧ i ≤ L ∧ L ≤ i + gf ∧ Hid (((ls.drop i).any (hitLn p wt) || hitTs p wt kids) = R) ∧ Hid (Below W1.heap.size W1 wx))
    case atStart => exact ⟨0, rfl, by omega, by omega, HR, hid (Below.refl _ _)⟩
    case round =>
      obtain ⟨i, rfl, hi, hg, HI, HB⟩ := hrel
      clear HR
      have z3 := HX.out.1.later HB.out 3 (.slice pl L cl) rfl
      have hbw := HB0.out.trans (HB.out.mono HB0.out.size)
      by_cases hlt : i < L
      · obtain ⟨x, hx⟩ : ∃ x, ls[i]? = some x := ⟨ls[i]'(by rw [HL.out.1]; exact hlt), List.getElem?_eq_getElem _⟩
        obtain ⟨b, off, c0, e, _, hxx⟩ := Lies.at (HT.out.1.keep (Keeps.of_below hbw)) (i := i) (by rw [List.length_map, HL.out.1]; exact hlt)
        injection e with e1 e2 e3
        subst e1
        clear e2 e3
        have hxc := hxx i x.cells (by rw [List.getElem?_map, hx]; rfl)
        obtain ⟨xp, xq, _, hxe⟩ : ∃ pp pq, x.pl.steps.length ≤ pq ∧ x.pl.sv = .slice pp x.pl.steps.length pq := lies_slice (HT.out.2.1 x (List.mem_of_getElem? hx))
        have cl1 := fun W hb => HIL.out x (List.mem_of_getElem? hx) W hb
        have hp := HI.out
        rw [drop_cons hx, List.any_cons, Bool.or_assoc] at hp
        have hh : hitLn p wt x = ((x.life.toList == []) && ((wt || x.mt) && overlap x.pl p)) := by unfold hitLn; rw [emp, Bool.and_assoc]
        obtain ⟨xl, ⟨xv, xs, xt⟩, xm⟩ := x
        dsimp only at hxe hh cl1
        subst hxe
        generalize overlap ⟨xv, _, xt⟩ p = ov at *
        have v0 := hxc 0 (.string xl) rfl
        have v1 := hxc 1 (.string xv) rfl
        have v2 := hxc 2 (.slice xp xt.length xq) rfl
        have v3 := hxc 3 (.bool xm) rfl
        rw [Nat.add_zero] at v0
        generalize xt.length = xL at *
        have bA : Below wr.heap.size wr (wr.alloc (.cells #[.string xl, .string xv, .slice xp xL xq, .bool xm] 27 (0, 0))) := (Below.refl _ _).alloc (Nat.le_refl _) _
        have q0 := later bA (HX.out.2.later HB.out 0 (.string pv) rfl)
        have q1 := later bA (HX.out.2.later HB.out 1 (.slice pc PS pq) rfl)
        have CL := hid (cl1 _ (hbw.trans (bA.mono hbw.size)))
        have HBA := hid (HB.out.trans (bA.mono HB.out.size))
        have HP := hid hp
        have HH := hid hh
        clear hx hxx hxc cl1 hp hh HI bA hbw HB
        have hrep : (xl.toList == []) = false ∨ ((xl.toList == []) = true ∧ (wt || xm) = false) ∨ ((xl.toList == []) = true ∧ (wt || xm) = true) := by
          cases (xl.toList == []) <;> cases (wt || xm) <;> simp
        rcases hrep with h0 | ⟨h0, h1⟩ | ⟨h0, h1⟩
        · have HN := HP.out
          rw [HH.out, h0, Bool.false_and, Bool.false_or] at HN
          replace HN := hid HN
          clear HP HH CL
          go_wp2_with fail
          go_roundg (gk - 1)
          case measure => omega
          case rel => exact ⟨i + 1, by go_num, by omega, by omega, HN, HBA⟩
        · have HN := HP.out
          rw [HH.out, h0, h1, Bool.false_and, Bool.and_false, Bool.false_or] at HN
          replace HN := hid HN
          rw [Bool.or_eq_false_iff] at h1
          obtain ⟨rfl, rfl⟩ := h1
          clear HP HH CL
          go_wp2_with fail
          go_roundg (gk - 1)
          case measure => omega
          case rel => exact ⟨i + 1, by go_num, by omega, by omega, HN, HBA⟩
        · have HN := HP.out
          rw [HH.out, h0, h1, Bool.true_and, Bool.true_and] at HN
          replace HN := hid HN
          clear HP HH
          have hgo : (wt = true ∨ (wt = false ∧ xm = true)) := by cases xm <;> cases wt <;> simp_all
          rcases hgo with rfl | ⟨rfl, rfl⟩
          all_goals (
            clear h1
            go_wp2_with fail
            with_reducible refine CL.out.mono ?_
            rintro e5 W5 ⟨rfl, hb5⟩
            have B6 := hid (HBA.out.trans (hb5.mono HBA.out.size))
            clear hb5 CL HBA v0 v1 v2 v3 q0 q1 z3
            cases ov
            · have HN2 := HN.out
              rw [Bool.false_or] at HN2
              replace HN2 := hid HN2
              clear HN
              go_wp2_with fail
              go_roundg (gk - 1)
              case measure => omega
              case rel => exact ⟨i + 1, by go_num, by omega, by omega, HN2, B6⟩
            · have HN2 : Hid (R = true) := hid (by rw [← HN.out]; rfl)
              clear HN
              go_wp2_with fail
              go_ret
              exact ⟨ret_bool HN2.out.symm, HB0.out.trans (B6.out.mono HB0.out.size)⟩)
      · have HK : Hid (hitTs p wt (kids.drop 0) = R) := hid (by have := HI.out; rw [List.drop_eq_nil_of_le (by rw [HL.out.1]; omega), List.any_nil, Bool.false_or] at this; rw [List.drop_zero]; exact this)
        clear HI HIL
        go_wp2_with fail
        have HBB := hid HB.out
        have HBW := hid hbw
        clear HB z3 hbw
        generalize hwq : wr = wq at *
        clear hwq
        go_loopg [9] N (fun gf u wx => ∃ j : Nat, u = .int .i64 (j : Int) ∧ j ≤ N ∧ N ≤ j + gf ∧ Hid (hitTs p wt (kids.drop j) = R) ∧ Hid (Below wq.heap.size wq wx))
        case atStart => exact ⟨0, rfl, by omega, by omega, HK, hid (Below.refl _ _)⟩
        case round =>
          obtain ⟨j, rfl, hj, hg2, HJ, HB⟩ := hrel
          clear HK
          have hbx := HBB.out.trans (HB.out.mono HBB.out.size)
          have hbw := HBW.out.trans (HB.out.mono HBW.out.size)
          by_cases hlt2 : j < N
          · obtain ⟨y, hy⟩ : ∃ y, kids[j]? = some y := ⟨kids[j]'(by rw [HL.out.2]; exact hlt2), List.getElem?_eq_getElem _⟩
            obtain ⟨b, off, c0, e, _, hyy⟩ := Lies.at (HT.out.2.2.1.keep (Keeps.of_below hbw)) (i := j) (by rw [List.length_map, HL.out.2]; exact hlt2)
            injection e with e1 e2 e3
            subst e1
            clear e2 e3
            have hyc := hyy j y.cells (by rw [List.getElem?_map, hy]; rfl)
            have z4 := HX.out.1.later hbx 4 (.slice (some ⟨b, off, none⟩) N ck) rfl
            have k4 := cell_regrown z4
            have k0 := cell_regrown (HX.out.2.later hbx 0 (.string pv) rfl)
            have k1 := cell_regrown (HX.out.2.later hbx 1 (.slice pc PS pq) rfl)
            have CY := hid (fun (d : Nat) (os : Array Obj) => Calls.regrown_of (HIK.out y (List.mem_of_getElem? hy) (grow (redrawn wr d) os) (hbw.trans ((below_regrown wr d os).mono hbw.size))))
            have KY := hid (reg_cells hyc)
            have ZY := hid (tySize y)
            have hp := HJ.out
            rw [drop_cons hy, hitTs] at hp
            change Hid (∀ d os, Calls _ _ #[.agg y.cells.toArray, _, _] _ _) at CY
            generalize hitT p wt y = q at *
            generalize y.cells = ycs at *
            have HP := hid hp
            have HBW2 := hid hbw
            have i1 : (j : Int) < (N : Int) := by omega
            have i0 : (0 : Int) ≤ (j : Int) := by omega
            clear hy hyy hyc hp HJ hbx hbw
            go_wp2_with fail
            refine wp_region_quiet_below (by kernel_rfl) (by kernel_rfl) ?_
            repeat (first | ((with_reducible refine wpQuiet_load_at (o := ⟨some 49, _, _, _, _, _⟩) rfl _ _ rfl b (off + j * 5) rfl ycs _ KY.out Try.underlying43 rfl ZY.out ?_); simp only [Act.put, List.setIfInBounds_toArray, List.set_cons_zero, List.set_cons_succ]) | go_big_quiet_step (first | (with_reducible exact CY.out _ _)))
            refine wpQuiet_nil ?_
            intro _ hw'
            obtain ⟨⟨dq, osq⟩, hw''⟩ := hw'
            subst hw''
            have B3 := hid (HB.out.trans ((below_regrown wr dq osq).mono HB.out.size))
            have B4 := hid (HBW2.out.trans ((below_regrown wr dq osq).mono HBW2.out.size))
            clear HB CY KY HBW2 z4 k4 k0 k1
            cases q
            · have HN : Hid (hitTs p wt (kids.drop (j + 1)) = R) := hid (by rw [← HP.out]; rfl)
              clear HP
              go_wp2_with fail
              go_roundg (gk - 1)
              case measure => omega
              case rel => exact ⟨j + 1, by go_num, by omega, by omega, HN, B3⟩
            · have HN : Hid (R = true) := hid (by rw [← HP.out]; rfl)
              clear HP
              go_wp2_with fail
              go_ret
              exact ⟨ret_bool HN.out.symm, B4.out⟩
          · have HN : Hid (R = false) := hid (by rw [← HJ.out, List.drop_eq_nil_of_le (by rw [HL.out.2]; omega)]; rfl)
            have z4 := HX.out.1.later hbx 4 (.slice pk N ck) rfl
            have HBW2 := hid hbw
            clear HJ hbx hbw
            go_wp2_with fail
            go_ret
            exact ⟨ret_bool HN.out.symm, HBW2.out⟩

set_option maxHeartbeats 8000000 in
set_option maxRecDepth 100000 in
theorem rHit_any (e : List Bd) (p : Pl) (wt : Bool) (v : Value) (w : World) (h : EnvIn w v e) (hs : ∀ b ∈ e, Small b.ty) (hlen : e.length ≤ 1048576) (hp : p.In w) (hps : p.steps.length ≤ 1048576) :
    Calls Try.prog 12 #[v, p.val, .bool wt] w fun r w' => r = .returned (.bool (hit e p wt)) ∧ Below w.heap.size w w' := by
  obtain ⟨pe, cap, hcap, rfl⟩ := lies_slice h.1
  obtain ⟨pc, pq, hpq, hpe⟩ : ∃ pp pq, p.steps.length ≤ pq ∧ p.sv = .slice pp p.steps.length pq := lies_slice hp
  obtain ⟨R, hR⟩ : ∃ R, hit e p wt = R := ⟨_, rfl⟩
  rw [hR]
  have c1 := fun (x : Bd) (hx : x ∈ e) (W : World) (hb : Below w.heap.size w W) => rhit_any 1048576 x.ty p wt W (hs x hx) (Nat.le_refl _) (ETy.In.keep (Keeps.of_below hb) _ (h.2 x hx)) (hp.keep (Keeps.of_below hb)) hps
  change ∀ x ∈ e, ∀ W, Below w.heap.size w W → Calls _ _ #[_, .agg #[.string p.var, p.sv], .bool wt] _ _ at c1
  rw [show p.val = .agg #[.string p.var, p.sv] from rfl]
  rw [hpe] at c1 ⊢
  generalize hL : e.length = L at *
  generalize p.steps.length = PS at *
  generalize p.var = pv at *
  have HR : Hid ((e.drop 0).any (fun b => hitT p wt b.ty) = R) := hid (by rw [List.drop_zero]; exact hR)
  have HE := hid h
  have HL := hid hL
  have C1 := hid c1
  have X0 := BoxAt.new w [.string pv, .slice pc PS pq] 25
  have bA : Below w.heap.size w (w.alloc (.cells #[.string pv, .slice pc PS pq] 25 (0, 0))) := (Below.refl _ _).alloc (Nat.le_refl _) _
  change BoxAt (w.alloc (.cells #[.string pv, .slice pc PS pq] 25 (0, 0))) _ _ at X0
  have HX := hid X0
  have HB0 := hid bA
  clear hR h hL c1 X0 bA hp hpe hs
  go_enter Try.func12, Try.ntmps12
  go_wp2_with fail
  generalize World.alloc w _ = W1 at *
  go_loopg [7] L (fun gf u wx => ∃ j : Nat, u = .int .i64 (j : Int) ∧ j ≤ L ∧ L ≤ j + gf ∧ Hid ((e.drop j).any (fun b => hitT p wt b.ty) = R) ∧ Hid (Below W1.heap.size W1 wx))
  case atStart => exact ⟨0, rfl, by omega, by omega, HR, hid (Below.refl _ _)⟩
  case round =>
    obtain ⟨j, rfl, hj, hg2, HJ, HB⟩ := hrel
    clear HR
    have hbw := HB0.out.trans (HB.out.mono HB0.out.size)
    by_cases hlt2 : j < L
    · obtain ⟨y, hy⟩ : ∃ y, e[j]? = some y := ⟨e[j]'(by rw [HL.out]; exact hlt2), List.getElem?_eq_getElem _⟩
      obtain ⟨b, off, c0, e', _, hyy⟩ := Lies.at (HE.out.1.keep (Keeps.of_below hbw)) (i := j) (by rw [List.length_map, HL.out]; exact hlt2)
      injection e' with e1 e2 e3
      subst e1
      clear e2 e3
      have hyc := hyy j y.cells (by rw [List.getElem?_map, hy]; rfl)
      have hyt : ∀ (a : Nat) (u : Value), y.ty.cells[a]? = some u → wr.cell? ⟨b, off + j * 6 + 1 + a, none⟩ = some u := fun a u hu => by
        have := hyc (1 + a) u (by unfold Bd.cells; rw [List.getElem?_append_right (by simp)]; simpa using hu)
        rw [Nat.add_assoc (off + j * 6)]; exact this
      have k0 := cell_regrown (HX.out.later HB.out 0 (.string pv) rfl)
      have k1 := cell_regrown (HX.out.later HB.out 1 (.slice pc PS pq) rfl)
      have CY := hid (fun (d : Nat) (os : Array Obj) => Calls.regrown_of (C1.out y (List.mem_of_getElem? hy) (grow (redrawn wr d) os) (hbw.trans ((below_regrown wr d os).mono hbw.size))))
      change Hid (∀ d os, Calls _ _ #[.agg y.ty.cells.toArray, _, _] _ _) at CY
      have KY := hid (reg_cells hyt)
      have ZY := hid (tySize y.ty)
      have hp := HJ.out
      rw [drop_cons hy, List.any_cons] at hp
      generalize hitT p wt y.ty = q at *
      generalize y.ty.cells = ycs at *
      have HP := hid hp
      have HBW2 := hid hbw
      have i1 : (j : Int) < (L : Int) := by omega
      have i0 : (0 : Int) ≤ (j : Int) := by omega
      clear hy hyy hyc hyt hp HJ hbw
      go_wp2_with fail
      refine wp_region_quiet_below (by kernel_rfl) (by kernel_rfl) ?_
      repeat (first | ((with_reducible refine wpQuiet_load_at (o := ⟨some 18, _, _, _, _, _⟩) rfl _ _ rfl b (off + j * 6 + 1) rfl ycs _ KY.out Try.underlying43 rfl ZY.out ?_); simp only [Act.put, List.setIfInBounds_toArray, List.set_cons_zero, List.set_cons_succ]) | go_big_quiet_step (first | (with_reducible exact CY.out _ _)))
      refine wpQuiet_nil ?_
      intro _ hw'
      obtain ⟨⟨dq, osq⟩, hw''⟩ := hw'
      subst hw''
      have B3 := hid (HB.out.trans ((below_regrown wr dq osq).mono HB.out.size))
      have B4 := hid (HBW2.out.trans ((below_regrown wr dq osq).mono HBW2.out.size))
      clear HB CY KY HBW2 k0 k1
      cases q
      · have HN : Hid ((e.drop (j + 1)).any (fun b => hitT p wt b.ty) = R) := hid (by rw [← HP.out]; rfl)
        clear HP
        go_wp2_with fail
        go_roundg (gk - 1)
        case measure => omega
        case rel => exact ⟨j + 1, by go_num, by omega, by omega, HN, B3⟩
      · have HN : Hid (R = true) := hid (by rw [← HP.out]; rfl)
        clear HP
        go_wp2_with fail
        go_ret
        exact ⟨ret_bool HN.out.symm, B4.out⟩
    · have HN : Hid (R = false) := hid (by rw [← HJ.out, List.drop_eq_nil_of_le (by rw [HL.out]; omega)]; rfl)
      have HBW2 := hid hbw
      clear HJ hbw
      go_wp2_with fail
      go_ret
      exact ⟨ret_bool HN.out.symm, HBW2.out⟩
end Go.Proofs.Ytannfhbocfghkaa.EnvC
/- Contracts of the document's size and Size (lienbookref05). -/
namespace Go.Proofs.Ytannfhbocfghkaa.EnvC
open Go Go.RowKit Go.Lib Go.Sort Go.Proofs.Ytannfhbocfghkaa.EnvP

def szLn (l : Ln) : Nat := 1 + l.pl.steps.length / 10 + l.pl.var.size / 100 + l.life.size / 100
def szLns : Nat → List Ln → Nat
  | n, [] => n
  | n, l :: ls => if n ≤ 400 then szLns (n + szLn l) ls else n
mutual
def szT : ETy → Nat | .mk _ _ _ _ ls _ kids => szTs (szLns 1 ls) kids
def szTs : Nat → List ETy → Nat
  | n, [] => n
  | n, t :: ts => if n ≤ 400 then szTs (n + szT t) ts else n
end
theorem szLns_le : ∀ (l : List Ln) (n : Nat), szLns n l ≤ n + wLns l
  | [], n => by simp [szLns, wLns]
  | x :: l, n => by
    rw [szLns, wLns]
    have h1 : szLn x ≤ wLn x := by unfold szLn wLn wPl; omega
    have h2 := szLns_le l (n + szLn x)
    split <;> omega
mutual
theorem szT_le : ∀ t : ETy, szT t ≤ wT t
  | .mk _ _ _ _ ls _ kids => by
    rw [szT, wT]
    have h1 := szLns_le ls 1
    have h2 := szTs_le kids (szLns 1 ls)
    omega
theorem szTs_le : ∀ (l : List ETy) (n : Nat), szTs n l ≤ n + wTs l
  | [], n => by simp [szTs, wTs]
  | x :: l, n => by
    rw [szTs, wTs]
    have h1 := szT_le x
    have h2 := szTs_le l (n + szT x)
    split <;> omega
end

set_option maxHeartbeats 8000000 in
set_option maxRecDepth 100000 in
theorem rsize_any : ∀ (n : Nat) (t : ETy) (w : World), wT t ≤ n → n ≤ 1048576 → t.In w →
    Calls Try.prog 17 #[t.val] w fun r w' => r = .returned (.int .i64 (szT t : Int)) ∧ Below w.heap.size w w' := by
  intro n
  induction n using Nat.strongRecOn with
  | ind n ih =>
    intro t w hw hn ht
    have hsm : Small t := by unfold Small; omega
    have hsl := hsm.loans
    obtain ⟨k, m, g, lv, ls, kv, kids⟩ := t
    rw [ETy.In] at ht
    obtain ⟨pl, cl, hcl, rfl⟩ := lies_slice ht.1
    obtain ⟨pk, ck, hck, rfl⟩ := lies_slice ht.2.2.1
    rw [wT] at hw
    have hkl := kids_len kids
    have hLb : ls.length ≤ 1048576 := hsl.1
    have hNb : kids.length ≤ 1048576 := by omega
    have hle1 := szLns_le ls 1
    have hle2 := szTs_le kids (szLns 1 ls)
    obtain ⟨R, hR⟩ : ∃ R, szT (.mk k m g (.slice pl ls.length cl) ls (.slice pk kids.length ck) kids) = R := ⟨_, rfl⟩
    rw [hR]
    rw [szT] at hR
    have ihk := fun (x : ETy) (hx : x ∈ kids) (W : World) (hb : Below w.heap.size w W) => ih (wT x) (by have := mem_sum wT hx; rw [← wTs_sum] at this; omega) x W (Nat.le_refl _) (by have := mem_sum wT hx; rw [← wTs_sum] at this; omega) (ETy.In.keep (Keeps.of_below hb) x ((ETy.ins_iff w kids).1 ht.2.2.2 x hx))
    have hin := ht.2.1
    have hwl : wLns ls ≤ 1048576 := by omega
    have hwk : wTs kids ≤ 1048576 := by omega
    change Calls _ _ #[.agg #[.int .i64 k, .bool m, .bool g, .slice pl ls.length cl, .slice pk kids.length ck]] _ _
    generalize hL : ls.length = L at *
    generalize hN : kids.length = N at *
    have X1 := BoxAt.new w [.int .i64 k, .bool m, .bool g, .slice pl L cl, .slice pk N ck] 43
    have bA : Below w.heap.size w (w.alloc (.cells #[.int .i64 k, .bool m, .bool g, .slice pl L cl, .slice pk N ck] 43 (0, 0))) := (Below.refl _ _).alloc (Nat.le_refl _) _
    change BoxAt (w.alloc (.cells #[.int .i64 k, .bool m, .bool g, .slice pl L cl, .slice pk N ck] 43 (0, 0))) _ _ at X1
    have HB0 := hid bA
    have HX := hid X1
    have HT := hid ht
    have HIN := hid hin
    have HIK := hid ihk
    have HL := hid (And.intro hL hN)
    have HWL := hid (And.intro hwl hwk)
    have HR : Hid (szTs (szLns 1 (ls.drop 0)) kids = R) := hid (by rw [List.drop_zero]; exact hR)
    clear bA X1 ht ihk hL hN hR ih hw hsm hsl hkl hin hwl hwk hle1 hle2
    go_enter Try.func17, Try.ntmps17
    go_wp2_with fail
    generalize World.alloc w _ = W1 at *
    go_loopg [3, 4] L (fun gf u3 u4 wx => ∃ i a : Nat, u3 = .int .i64 (a : Int) ∧ u4 = .int .i64 (i : Int) ∧ i ≤ L ∧ L ≤ i + gf ∧ a + wLns (ls.drop i) ≤ 1 + wLns ls ∧ Hid (szTs (szLns a (ls.drop i)) kids = R) ∧ Hid (Below W1.heap.size W1 wx))
    case atStart => exact ⟨0, 1, rfl, rfl, by omega, by omega, by rw [List.drop_zero]; exact Nat.le_refl _, HR, hid (Below.refl _ _)⟩
    case round =>
      obtain ⟨i, a, rfl, rfl, hi, hg, ha, HI, HB⟩ := hrel
      clear HR
      have z3 := HX.out.later HB.out 3 (.slice pl L cl) rfl
      have hbw := HB0.out.trans (HB.out.mono HB0.out.size)
      have ha2 : a ≤ 2097152 := by have := HWL.out.1; omega
      by_cases hlt : i < L
      · obtain ⟨x, hx⟩ : ∃ x, ls[i]? = some x := ⟨ls[i]'(by rw [HL.out.1]; exact hlt), List.getElem?_eq_getElem _⟩
        by_cases h400 : a ≤ 400
        · obtain ⟨b, off, c0, e, _, hxx⟩ := Lies.at (HT.out.1.keep (Keeps.of_below hbw)) (i := i) (by rw [List.length_map, HL.out.1]; exact hlt)
          injection e with e1 e2 e3
          subst e1
          clear e2 e3
          have hxc := hxx i x.cells (by rw [List.getElem?_map, hx]; rfl)
          obtain ⟨xp, xq, _, hxe⟩ : ∃ pp pq, x.pl.steps.length ≤ pq ∧ x.pl.sv = .slice pp x.pl.steps.length pq := lies_slice (HIN.out x (List.mem_of_getElem? hx))
          have hp := HI.out
          rw [drop_cons hx, szLns, if_pos h400] at hp
          rw [drop_cons hx, wLns] at ha
          have hs1 : szLn x ≤ wLn x := by unfold szLn wLn wPl; omega
          have hs2 : wLn x ≤ 1048576 := by have := mem_sum wLn (List.mem_of_getElem? hx); rw [← wLns_sum] at this; have := HWL.out.1; omega
          unfold szLn at hp hs1
          obtain ⟨xl, ⟨xv, xs, xt⟩, xm⟩ := x
          dsimp only at hxe hp hs1
          subst hxe
          have v0 := hxc 0 (.string xl) rfl
          have v1 := hxc 1 (.string xv) rfl
          have v2 := hxc 2 (.slice xp xt.length xq) rfl
          rw [Nat.add_zero] at v0
          have hz : xl.size ≤ 1048576 ∧ xv.size ≤ 1048576 ∧ xt.length ≤ 1048576 := by unfold wLn wPl at hs2; dsimp only at hs2; omega
          have hb2 := HB.out
          generalize xt.length = xL at *
          generalize hz1 : xl.size = zl at *
          generalize hz2 : xv.size = zv at *
          have HP := hid hp
          have d1 : decide (a ≤ 400) = true := by simp [h400]
          clear hx hxx hxc hp HI hbw
          go_wp2_with fail
          go_quiet (fail)
          go_wp2_with fail
          go_roundg (gk - 1)
          case measure => omega
          case rel => exact ⟨i + 1, a + (1 + xL / 10 + zv / 100 + zl / 100), by simp only [Value.int.injEq, true_and]; omega, by go_num, by omega, by omega, by omega, HP, hid (below_drewN HB.out _)⟩
        · have HK : Hid (szTs a (kids.drop 0) = R) := hid (by have := HI.out; rw [drop_cons hx, szLns, if_neg h400] at this; rw [List.drop_zero]; exact this)
          have d1 : decide (a ≤ 400) = false := by simp [h400]
          have HBW := hid hbw
          have HBB := hid HB.out
          clear hx HI HB hbw ha
          have hb0 : a + wTs (kids.drop 0) ≤ 4194304 := by rw [List.drop_zero]; have := HWL.out.2; omega
          go_wp2_with fail
          generalize hwq : wr = wq at *
          clear hwq z3
          go_loopg [3, 5] N (fun gf u3 u5 wx => ∃ j a2 : Nat, u3 = .int .i64 (a2 : Int) ∧ u5 = .int .i64 (j : Int) ∧ j ≤ N ∧ N ≤ j + gf ∧ a2 + wTs (kids.drop j) ≤ 4194304 ∧ Hid (szTs a2 (kids.drop j) = R) ∧ Hid (Below wq.heap.size wq wx))
          case atStart => exact ⟨0, a, rfl, rfl, by omega, by omega, hb0, HK, hid (Below.refl _ _)⟩
          case round =>
            obtain ⟨j, a2, rfl, rfl, hj, hg2, ha, HJ, HB⟩ := hrel
            clear HK
            have hbx := HBB.out.trans (HB.out.mono HBB.out.size)
            have hbw := HBW.out.trans (HB.out.mono HBW.out.size)
            have ha2 : a2 ≤ 4194304 := by omega
            have z4 := HX.out.later hbx 4 (.slice pk N ck) rfl
            by_cases hlt2 : j < N
            · obtain ⟨y, hy⟩ : ∃ y, kids[j]? = some y := ⟨kids[j]'(by rw [HL.out.2]; exact hlt2), List.getElem?_eq_getElem _⟩
              by_cases h402 : a2 ≤ 400
              · obtain ⟨b, off, c0, e, _, hyy⟩ := Lies.at (HT.out.2.2.1.keep (Keeps.of_below hbw)) (i := j) (by rw [List.length_map, HL.out.2]; exact hlt2)
                injection e with e1 e2 e3
                subst e1
                clear e2 e3
                have hyc := hyy j y.cells (by rw [List.getElem?_map, hy]; rfl)
                have k4 := cell_regrown z4
                have CY := hid (HIK.out y (List.mem_of_getElem? hy) wr hbw)
                change Hid (Calls _ _ #[.agg y.cells.toArray] _ _) at CY
                have KY := hid hyc
                have ZY := hid (tySize y)
                have hp := HJ.out
                rw [drop_cons hy, szTs, if_pos h402] at hp
                rw [drop_cons hy, wTs] at ha
                have hs1 := szT_le y
                generalize szT y = sy at *
                generalize y.cells = ycs at *
                have HP := hid hp
                have HBW2 := hid hbw
                have d2 : decide (a2 ≤ 400) = true := by simp [h402]
                have i1 : (j : Int) < (N : Int) := by omega
                have i0 : (0 : Int) ≤ (j : Int) := by omega
                have hov : (a2 : Int) + (sy : Int) ≤ 9223372036854775807 := by omega
                clear hy hyy hyc hp HJ hbx hbw
                go_wp2_with (with_reducible refine wpList_load_at (o := ⟨some 64, _, _, _, _, _⟩) rfl _ _ rfl b (off + j * 5) rfl ycs _ KY.out Try.underlying43 rfl ZY.out ?_)
                with_reducible refine CY.out.mono ?_
                rintro e3 W3 ⟨rfl, hb3⟩
                have B3 := hid (HB.out.trans (hb3.mono HB.out.size))
                clear HB CY KY HBW2 z4 k4 hb3
                go_wp2_with fail
                go_roundg (gk - 1)
                case measure => omega
                case rel => exact ⟨j + 1, a2 + sy, by simp only [Value.int.injEq, true_and]; omega, by go_num, by omega, by omega, by omega, HP, B3⟩
              · have HN : Hid (a2 = R) := hid (by have := HJ.out; rw [drop_cons hy, szTs, if_neg h402] at this; exact this)
                have d2 : decide (a2 ≤ 400) = false := by simp [h402]
                have HBW2 := hid hbw
                clear hy HJ hbx hbw ha
                go_wp2_with fail
                go_ret
                exact ⟨ret_nat HN.out, HBW2.out⟩
            · have HN : Hid (a2 = R) := hid (by have := HJ.out; rw [List.drop_eq_nil_of_le (by rw [HL.out.2]; omega), szTs] at this; exact this)
              have HBW2 := hid hbw
              clear HJ hbx hbw ha
              go_wp2_with fail
              go_ret
              exact ⟨ret_nat HN.out, HBW2.out⟩
      · have HK : Hid (szTs a (kids.drop 0) = R) := hid (by have := HI.out; rw [List.drop_eq_nil_of_le (by rw [HL.out.1]; omega), szLns] at this; rw [List.drop_zero]; exact this)
        have HBW := hid hbw
        have HBB := hid HB.out
        clear HI HB hbw ha
        have hb0 : a + wTs (kids.drop 0) ≤ 4194304 := by rw [List.drop_zero]; have := HWL.out.2; omega
        go_wp2_with fail
        generalize hwq : wr = wq at *
        clear hwq z3
        go_loopg [3, 5] N (fun gf u3 u5 wx => ∃ j a2 : Nat, u3 = .int .i64 (a2 : Int) ∧ u5 = .int .i64 (j : Int) ∧ j ≤ N ∧ N ≤ j + gf ∧ a2 + wTs (kids.drop j) ≤ 4194304 ∧ Hid (szTs a2 (kids.drop j) = R) ∧ Hid (Below wq.heap.size wq wx))
        case atStart => exact ⟨0, a, rfl, rfl, by omega, by omega, hb0, HK, hid (Below.refl _ _)⟩
        case round =>
          obtain ⟨j, a2, rfl, rfl, hj, hg2, ha, HJ, HB⟩ := hrel
          clear HK
          have hbx := HBB.out.trans (HB.out.mono HBB.out.size)
          have hbw := HBW.out.trans (HB.out.mono HBW.out.size)
          have ha2 : a2 ≤ 4194304 := by omega
          have z4 := HX.out.later hbx 4 (.slice pk N ck) rfl
          by_cases hlt2 : j < N
          · obtain ⟨y, hy⟩ : ∃ y, kids[j]? = some y := ⟨kids[j]'(by rw [HL.out.2]; exact hlt2), List.getElem?_eq_getElem _⟩
            by_cases h402 : a2 ≤ 400
            · obtain ⟨b, off, c0, e, _, hyy⟩ := Lies.at (HT.out.2.2.1.keep (Keeps.of_below hbw)) (i := j) (by rw [List.length_map, HL.out.2]; exact hlt2)
              injection e with e1 e2 e3
              subst e1
              clear e2 e3
              have hyc := hyy j y.cells (by rw [List.getElem?_map, hy]; rfl)
              have k4 := cell_regrown z4
              have CY := hid (HIK.out y (List.mem_of_getElem? hy) wr hbw)
              change Hid (Calls _ _ #[.agg y.cells.toArray] _ _) at CY
              have KY := hid hyc
              have ZY := hid (tySize y)
              have hp := HJ.out
              rw [drop_cons hy, szTs, if_pos h402] at hp
              rw [drop_cons hy, wTs] at ha
              have hs1 := szT_le y
              generalize szT y = sy at *
              generalize y.cells = ycs at *
              have HP := hid hp
              have HBW2 := hid hbw
              have d2 : decide (a2 ≤ 400) = true := by simp [h402]
              have i1 : (j : Int) < (N : Int) := by omega
              have i0 : (0 : Int) ≤ (j : Int) := by omega
              have hov : (a2 : Int) + (sy : Int) ≤ 9223372036854775807 := by omega
              clear hy hyy hyc hp HJ hbx hbw
              go_wp2_with (with_reducible refine wpList_load_at (o := ⟨some 64, _, _, _, _, _⟩) rfl _ _ rfl b (off + j * 5) rfl ycs _ KY.out Try.underlying43 rfl ZY.out ?_)
              with_reducible refine CY.out.mono ?_
              rintro e3 W3 ⟨rfl, hb3⟩
              have B3 := hid (HB.out.trans (hb3.mono HB.out.size))
              clear HB CY KY HBW2 z4 k4 hb3
              go_wp2_with fail
              go_roundg (gk - 1)
              case measure => omega
              case rel => exact ⟨j + 1, a2 + sy, by simp only [Value.int.injEq, true_and]; omega, by go_num, by omega, by omega, by omega, HP, B3⟩
            · have HN : Hid (a2 = R) := hid (by have := HJ.out; rw [drop_cons hy, szTs, if_neg h402] at this; exact this)
              have d2 : decide (a2 ≤ 400) = false := by simp [h402]
              have HBW2 := hid hbw
              clear hy HJ hbx hbw ha
              go_wp2_with fail
              go_ret
              exact ⟨ret_nat HN.out, HBW2.out⟩
          · have HN : Hid (a2 = R) := hid (by have := HJ.out; rw [List.drop_eq_nil_of_le (by rw [HL.out.2]; omega), szTs] at this; exact this)
            have HBW2 := hid hbw
            clear HJ hbx hbw ha
            go_wp2_with fail
            go_ret
            exact ⟨ret_nat HN.out, HBW2.out⟩

set_option maxHeartbeats 8000000 in
set_option maxRecDepth 100000 in
theorem rSize_any (e : List Bd) (v : Value) (w : World) (h : EnvIn w v e) (hw : wBds e ≤ 1048576) :
    Calls Try.prog 6 #[v] w fun r w' => (∃ a : Nat, r = .returned (.int .i64 (a : Int))) ∧ Below w.heap.size w w' := by
  obtain ⟨pe, cap, hcap, rfl⟩ := lies_slice h.1
  have hlb := binds_len e
  have hwb : ∀ x ∈ e, wBd x ≤ 1048576 := fun x hx => by have := mem_sum wBd hx; rw [← wBds_sum] at this; omega
  have c1 := fun (x : Bd) (hx : x ∈ e) (W : World) (hb : Below w.heap.size w W) => rsize_any 1048576 x.ty W (by have := hwb x hx; unfold wBd at this; omega) (Nat.le_refl _) (ETy.In.keep (Keeps.of_below hb) _ (h.2 x hx))
  have hLb : e.length ≤ 1048576 := by omega
  generalize hL : e.length = L at *
  have HE := hid h
  have HL := hid hL
  have C1 := hid c1
  have HWB := hid hwb
  have HW := hid hw
  clear h hL c1 hlb hwb hw
  go_enter Try.func6, Try.ntmps6
  go_wp2_with fail
  go_loopg [3, 4] L (fun gf u3 u4 wx => ∃ j a2 : Nat, u3 = .int .i64 (a2 : Int) ∧ u4 = .int .i64 (j : Int) ∧ j ≤ L ∧ L ≤ j + gf ∧ a2 + wBds (e.drop j) ≤ 1048576 ∧ Hid (Below w.heap.size w wx))
  case atStart => exact ⟨0, 0, rfl, rfl, by omega, by omega, by rw [List.drop_zero, Nat.zero_add]; exact HW.out, hid (Below.refl _ _)⟩
  case round =>
    obtain ⟨j, a2, rfl, rfl, hj, hg2, ha, HB⟩ := hrel
    have hbw := HB.out
    have ha2 : a2 ≤ 1048576 := by omega
    by_cases hlt2 : j < L
    · obtain ⟨y, hy⟩ : ∃ y, e[j]? = some y := ⟨e[j]'(by rw [HL.out]; exact hlt2), List.getElem?_eq_getElem _⟩
      by_cases h402 : a2 ≤ 400
      · obtain ⟨b, off, c0, e', _, hyy⟩ := Lies.at (HE.out.1.keep (Keeps.of_below hbw)) (i := j) (by rw [List.length_map, HL.out]; exact hlt2)
        injection e' with e1 e2 e3
        subst e1
        clear e2 e3
        have hyc := hyy j y.cells (by rw [List.getElem?_map, hy]; rfl)
        have hyt : ∀ (a : Nat) (u : Value), y.ty.cells[a]? = some u → wr.cell? ⟨b, off + j * 6 + 1 + a, none⟩ = some u := fun a u hu => by
          have := hyc (1 + a) u (by unfold Bd.cells; rw [List.getElem?_append_right (by simp)]; simpa using hu)
          rw [Nat.add_assoc (off + j * 6)]; exact this
        have k0 := cell_regrown (show wr.cell? ⟨b, off + j * 6, none⟩ = some (.string y.name) from hyc 0 _ rfl)
        have CY := hid (fun (d : Nat) (os : Array Obj) => Calls.regrown_of (C1.out y (List.mem_of_getElem? hy) (grow (redrawn wr d) os) (hbw.trans ((below_regrown wr d os).mono hbw.size))))
        change Hid (∀ d os, Calls _ _ #[.agg y.ty.cells.toArray] _ _) at CY
        have KY := hid (reg_cells hyt)
        have ZY := hid (tySize y.ty)
        rw [drop_cons hy, wBds] at ha
        have hs1 := szT_le y.ty
        unfold wBd at ha
        have hnz := Nat.div_le_self y.name.size 100
        generalize szT y.ty = sy at *
        generalize y.ty.cells = ycs at *
        generalize hyn : y.name = yn at *
        generalize hz1 : yn.size = zn at *
        have d2 : decide (a2 ≤ 400) = true := by simp [h402]
        have i1 : (j : Int) < (L : Int) := by omega
        have i0 : (0 : Int) ≤ (j : Int) := by omega
        have hov : (a2 : Int) + (sy : Int) ≤ 9223372036854775807 := by omega
        have hov2 : (a2 : Int) + (sy : Int) + (zn : Int) / 100 ≤ 9223372036854775807 := by omega
        clear hy hyy hyc hyt hyn hbw
        go_wp2_with fail
        refine wp_region_quiet_below (by kernel_rfl) (by kernel_rfl) ?_
        repeat (first | ((with_reducible refine wpQuiet_load_at (o := ⟨some 20, _, _, _, _, _⟩) rfl _ _ rfl b (off + j * 6 + 1) rfl ycs _ KY.out Try.underlying43 rfl ZY.out ?_); simp only [Act.put, List.setIfInBounds_toArray, List.set_cons_zero, List.set_cons_succ]) | go_big_quiet_step (first | (with_reducible exact CY.out _ _)))
        refine wpQuiet_nil ?_
        intro _ hw'
        obtain ⟨⟨dq, osq⟩, hw''⟩ := hw'
        subst hw''
        have B3 := hid (HB.out.trans ((below_regrown wr dq osq).mono HB.out.size))
        clear HB CY KY k0
        go_wp2_with fail
        go_roundg (gk - 1)
        case measure => omega
        case rel => exact ⟨j + 1, a2 + sy + zn / 100, by simp only [Value.int.injEq, true_and]; omega, by go_num, by omega, by omega, by omega, B3⟩
      · have d2 : decide (a2 ≤ 400) = false := by simp [h402]
        clear hy hbw ha
        go_wp2_with fail
        go_ret
        exact ⟨⟨a2, rfl⟩, HB.out⟩
    · clear hbw ha
      go_wp2_with fail
      go_ret
      exact ⟨⟨a2, rfl⟩, HB.out⟩
end Go.Proofs.Ytannfhbocfghkaa.EnvC
/- The contract of the statement EnvHits: it returns true, whatever the environment and the loans (of bulk at most 1048576). -/
namespace Go.Proofs.Ytannfhbocfghkaa.EnvC
open Go Go.RowKit Go.Lib Go.Sort Go.Proofs.Ytannfhbocfghkaa.EnvP

theorem steps_le {l : Ln} (h : wLn l ≤ 1048576) : l.pl.steps.length ≤ 1048576 := by unfold wLn wPl at h; omega
theorem small_all {e : List Bd} (h : wBds e ≤ 1048576) : (∀ x ∈ e, Small x.ty) ∧ e.length ≤ 1048576 := by
  refine ⟨fun x hx => ?_, by have := binds_len e; omega⟩
  have := mem_sum wBd hx
  rw [← wBds_sum] at this
  unfold wBd at this
  unfold Small
  omega

set_option maxHeartbeats 8000000 in
set_option maxRecDepth 100000 in
theorem envHits_any (e : List Bd) (a b : Ln) (wt : Bool) (v : Value) (w : World) (h : EnvIn w v e) (ha : a.pl.In w) (hb : b.pl.In w) (hw : wBds e ≤ 1048576) (hwa : wLn a ≤ 1048576) (hwb : wLn b ≤ 1048576) :
    Calls Try.prog 3 #[v, a.val, b.val, .bool wt] w fun r w' => r = .returned (.bool true) ∧ Below w.heap.size w w' := by
  have hsa := steps_le hwa
  have hsb := steps_le hwb
  obtain ⟨hsm, hlen⟩ := small_all hw
  have c1 := fun (W : World) (k : Below w.heap.size w W) => rSize_any e v W (h.keep (Keeps.of_below k)) hw
  have d1 := fun (W : World) (k : Below w.heap.size w W) (d : Nat) (os : Array Obj) => Calls.regrown_of (overlap_any a.pl b.pl (grow (redrawn W d) os) (ha.keep (regKeeps k d os)) (hb.keep (regKeeps k d os)) hsa hsb)
  have d2 := fun (W : World) (k : Below w.heap.size w W) (d : Nat) (os : Array Obj) => Calls.regrown_of (rOverlap_any a.pl b.pl (grow (redrawn W d) os) (ha.keep (regKeeps k d os)) (hb.keep (regKeeps k d os)) hsa hsb)
  have d3 := fun (W : World) (k : Below w.heap.size w W) (d : Nat) (os : Array Obj) => Calls.regrown_of (cmp_any a b (grow (redrawn W d) os) (ha.keep (regKeeps k d os)) (hb.keep (regKeeps k d os)) hsa hsb)
  have d4 := fun (W : World) (k : Below w.heap.size w W) (d : Nat) (os : Array Obj) => Calls.regrown_of (rCmp_any a b (grow (redrawn W d) os) (ha.keep (regKeeps k d os)) (hb.keep (regKeeps k d os)) hsa hsb)
  have d5 := fun (W : World) (k : Below w.heap.size w W) (d : Nat) (os : Array Obj) => Calls.regrown_of (hit_any e a.pl wt v (grow (redrawn W d) os) (h.keep (regKeeps k d os)) hsm hlen (ha.keep (regKeeps k d os)) hsa)
  have d6 := fun (W : World) (k : Below w.heap.size w W) (d : Nat) (os : Array Obj) => Calls.regrown_of (rHit_any e a.pl wt v (grow (redrawn W d) os) (h.keep (regKeeps k d os)) hsm hlen (ha.keep (regKeeps k d os)) hsa)
  generalize hit e a.pl wt = hv at *
  generalize cmpLn a b = cv at *
  generalize overlap a.pl b.pl = ov at *
  obtain ⟨pa, qa, _, ea⟩ : ∃ pp pq, a.pl.steps.length ≤ pq ∧ a.pl.sv = .slice pp a.pl.steps.length pq := lies_slice ha
  obtain ⟨pb, qb, _, eb⟩ : ∃ pp pq, b.pl.steps.length ≤ pq ∧ b.pl.sv = .slice pp b.pl.steps.length pq := lies_slice hb
  obtain ⟨la, ⟨va, sa, ta⟩, ma⟩ := a
  obtain ⟨lb, ⟨vb, sb, tb⟩, mb⟩ := b
  dsimp only at ea eb hsa hsb
  subst ea eb
  change Calls _ _ #[v, .agg #[.string la, .string va, .slice pa ta.length qa, .bool ma], .agg #[.string lb, .string vb, .slice pb tb.length qb, .bool mb], .bool wt] _ _
  change ∀ W, Below w.heap.size w W → ∀ d os, Calls _ _ #[.agg #[.string va, .slice pa ta.length qa], .agg #[.string vb, .slice pb tb.length qb]] _ _ at d1 d2
  change ∀ W, Below w.heap.size w W → ∀ d os, Calls _ _ #[.agg #[.string la, .string va, .slice pa ta.length qa, .bool ma], .agg #[.string lb, .string vb, .slice pb tb.length qb, .bool mb]] _ _ at d3 d4
  change ∀ W, Below w.heap.size w W → ∀ d os, Calls _ _ #[v, .agg #[.string va, .slice pa ta.length qa], .bool wt] _ _ at d5 d6
  generalize ta.length = NA at *
  generalize tb.length = NB at *
  have B0 : Below w.heap.size w ((w.alloc (.cells #[.string la, .string va, .slice pa NA qa, .bool ma] 27 (0, 0))).alloc (.cells #[.string lb, .string vb, .slice pb NB qb, .bool mb] 27 (0, 0))) := ((Below.refl _ _).alloc (Nat.le_refl _) _).alloc (by simp) _
  have X0 : BoxAt ((w.alloc (.cells #[.string la, .string va, .slice pa NA qa, .bool ma] 27 (0, 0))).alloc (.cells #[.string lb, .string vb, .slice pb NB qb, .bool mb] 27 (0, 0))) w.heap.size [.string la, .string va, .slice pa NA qa, .bool ma] := (BoxAt.new w _ _).later ((Below.refl _ _).alloc (Nat.le_refl _) _)
  have X1 : BoxAt ((w.alloc (.cells #[.string la, .string va, .slice pa NA qa, .bool ma] 27 (0, 0))).alloc (.cells #[.string lb, .string vb, .slice pb NB qb, .bool mb] 27 (0, 0))) (w.heap.size + 1) [.string lb, .string vb, .slice pb NB qb, .bool mb] := by
    have := BoxAt.new (w.alloc (.cells #[.string la, .string va, .slice pa NA qa, .bool ma] 27 (0, 0))) [.string lb, .string vb, .slice pb NB qb, .bool mb] 27
    rwa [World.size_alloc] at this
  have C0 := hid (awake_any _ |> fun k => (k : Calls Try.prog 5 #[] ((w.alloc (.cells #[.string la, .string va, .slice pa NA qa, .bool ma] 27 (0, 0))).alloc (.cells #[.string lb, .string vb, .slice pb NB qb, .bool mb] 27 (0, 0))) _))
  have H0 := hid B0
  have HX := hid (And.intro X0 X1)
  have C1 := hid c1
  have D1 := hid d1
  have D2 := hid d2
  have D3 := hid d3
  have D4 := hid d4
  have D5 := hid d5
  have D6 := hid d6
  clear c1 d1 d2 d3 d4 d5 d6 B0 X0 X1 h ha hb hw hwa hwb hsm hlen
  go_enter Try.func3, Try.ntmps3
  go_wp2_with fail
  generalize (World.alloc (World.alloc w _) _) = W1 at *
  refine C0.out.mono ?_
  rintro e0 W2 ⟨rfl, hb2⟩
  have H2 := hid (H0.out.trans (hb2.mono H0.out.size))
  have X2 := HX.out.1.later hb2
  have Y2 := HX.out.2.later hb2
  have C2 := hid (C1.out W2 H2.out)
  have HX2 := hid (And.intro X2 Y2)
  clear hb2 X2 Y2 C0 C1 H0 HX
  go_wp2_with fail
  refine C2.out.mono ?_
  rintro e0 W3 ⟨⟨n, rfl⟩, hb3⟩
  have H3 := hid (H2.out.trans (hb3.mono H2.out.size))
  have X3 := HX2.out.1.later hb3
  have Y3 := HX2.out.2.later hb3
  have E1 := hid (D1.out W3 H3.out)
  have E2 := hid (D2.out W3 H3.out)
  have E3 := hid (D3.out W3 H3.out)
  have E4 := hid (D4.out W3 H3.out)
  have E5 := hid (D5.out W3 H3.out)
  have E6 := hid (D6.out W3 H3.out)
  have x2 := box_get X3 (j := 2) rfl
  have y2 := box_get Y3 (j := 2) rfl
  have HX3 := hid (And.intro X3 Y3)
  clear hb3 X3 Y3 C2 D1 D2 D3 D4 D5 D6 H2 HX2
  by_cases h400 : 400 < n
  · have d0 : decide (400 < n) = true := by simp [h400]
    go_wp2_with fail
    go_ret
    exact ⟨rfl, H3.out⟩
  have d0 : decide (400 < n) = false := by simp [h400]
  by_cases hs400 : 400 < NA + NB
  · have d1 : decide ((400 : Int) < (NA : Int) + (NB : Int)) = true := by simp; omega
    go_wp2_with fail
    go_ret
    exact ⟨rfl, H3.out⟩
  have d1 : decide ((400 : Int) < (NA : Int) + (NB : Int)) = false := by simp; omega
  go_wp2_with fail
  have k0 := cell_regrown (box_get HX3.out.1 (j := 0) rfl)
  have k1 := cell_regrown (box_get HX3.out.1 (j := 1) rfl)
  have k2 := cell_regrown (box_get HX3.out.1 (j := 2) rfl)
  have k3 := cell_regrown (box_get HX3.out.1 (j := 3) rfl)
  have m0 := cell_regrown (box_get HX3.out.2 (j := 0) rfl)
  have m1 := cell_regrown (box_get HX3.out.2 (j := 1) rfl)
  have m2 := cell_regrown (box_get HX3.out.2 (j := 2) rfl)
  have m3 := cell_regrown (box_get HX3.out.2 (j := 3) rfl)
  clear x2 y2 HX3
  refine wp_region_quiet_below (by kernel_rfl) (by kernel_rfl) ?_
  repeat (go_big_quiet_step (first | (with_reducible exact E1.out _ _) | (with_reducible exact E2.out _ _) | (with_reducible exact E3.out _ _) | (with_reducible exact E4.out _ _) | (with_reducible exact E5.out _ _) | (with_reducible exact E6.out _ _)))
  refine wpQuiet_nil ?_
  intro _ hw'
  obtain ⟨⟨dq, osq⟩, hw''⟩ := hw'
  subst hw''
  go_wp2_with fail
  go_ret
  exact ⟨by first | rfl | (simp; done), H3.out.trans ((below_regrown W3 dq osq).mono H3.out.size)⟩
end Go.Proofs.Ytannfhbocfghkaa.EnvC
