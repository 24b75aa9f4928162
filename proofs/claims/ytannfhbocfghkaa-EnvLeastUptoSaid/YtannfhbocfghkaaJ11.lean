/- Texts joined: EnvZK, EnvZL, EnvS, EnvV. -/
import Derived.Test.YtannfhbocfghkaaJ10
import Derived.Test.YtannfhbocfghkaaJ08
import Derived.Test.YtannfhbocfghkaaJ09
/- The document's SameTy (lienbookref05). -/
namespace Go.Proofs.Ytannfhbocfghkaa.EnvC
open Go Go.RowKit Go.Lib Go.Sort Go.Proofs.Ytannfhbocfghkaa.EnvP

theorem alikes_len : ∀ {l m : List Ln}, alikes l m = true → l.length = m.length
  | [], [], _ => rfl
  | a :: l, b :: m, h => by rw [alikes, Bool.and_eq_true] at h; rw [List.length_cons, List.length_cons, alikes_len h.2]
  | [], _ :: _, h => by cases h
  | _ :: _, [], h => by cases h
theorem same_len : ∀ {l m : List ETy}, sameTs l m = true → l.length = m.length
  | [], [], _ => rfl
  | a :: l, b :: m, h => by rw [sameTs, Bool.and_eq_true] at h; rw [List.length_cons, List.length_cons, same_len h.2]
  | [], _ :: _, h => by cases h
  | _ :: _, [], h => by cases h
theorem alikes_ne {l m : List Ln} (h : ¬ l.length = m.length) : alikes l m = false := by
  cases e : alikes l m
  · rfl
  · exact absurd (alikes_len e) h
theorem same_ne {l m : List ETy} (h : ¬ l.length = m.length) : sameTs l m = false := by
  cases e : sameTs l m
  · rfl
  · exact absurd (same_len e) h
theorem rSameLoan_reg {w W : World} (y x : Ln) (hb : Below w.heap.size w W) (hy : y.pl.In w) (hx : x.pl.In w) (hly : y.pl.steps.length ≤ 1048576) (hlx : x.pl.steps.length ≤ 1048576) (d : Nat) (os : Array Obj) :
    Calls Try.prog 47 #[.agg y.cells.toArray, .agg x.cells.toArray] (grow (redrawn W d) os) fun e w'' => e = .returned (.bool (sameLn y x)) ∧ ∃ p : Regrown, w'' = grow (redrawn W p.d) p.os :=
  Calls.regrown_of (rSameLoan_any y x _ (hy.keep (regKeeps hb d os)) (hx.keep (regKeeps hb d os)) hly hlx)

set_option maxHeartbeats 8000000 in
set_option maxRecDepth 100000 in
theorem rSameT_any : ∀ (n : Nat) (t u : ETy) (w : World), wT t ≤ n → n ≤ 1048576 → wT u ≤ 1048576 → t.In w → u.In w →
    Calls Try.prog 32 #[t.val, u.val] w fun r w' => r = .returned (.bool (sameT t u)) ∧ Below w.heap.size w w' := by
  intro n
  induction n using Nat.strongRecOn with
  | ind n ih =>
    intro t u w hw hn hwu ht hu
    have hsm : Small t := by unfold Small; omega
    have hsl := hsm.loans
    have hsm2 : Small u := hwu
    have hsl2 := hsm2.loans
    obtain ⟨k, m, g, lv, ls, kv, kids⟩ := t
    obtain ⟨k2, m2, g2, lv2, ls2, kv2, kids2⟩ := u
    rw [ETy.In] at ht hu
    obtain ⟨pl, cl, hcl, rfl⟩ := lies_slice ht.1
    obtain ⟨pk, ck, hck, rfl⟩ := lies_slice ht.2.2.1
    obtain ⟨pl2, cl2, hcl2, rfl⟩ := lies_slice hu.1
    obtain ⟨pk2, ck2, hck2, rfl⟩ := lies_slice hu.2.2.1
    rw [wT] at hw hwu
    have hkl := kids_len kids
    have hLb : ls.length ≤ 1048576 := hsl.1
    have hNb : kids.length ≤ 1048576 := by omega
    clear hkl
    obtain ⟨R, hR⟩ : ∃ R, sameT (.mk k m g (.slice pl ls.length cl) ls (.slice pk kids.length ck) kids) (.mk k2 m2 g2 (.slice pl2 ls2.length cl2) ls2 (.slice pk2 kids2.length ck2) kids2) = R := ⟨_, rfl⟩
    rw [hR]
    rw [sameT] at hR
    have ihk := fun (x : ETy) (hx : x ∈ kids) (y : ETy) (hy : y ∈ kids2) (W : World) (hb : Below w.heap.size w W) => ih (wT x) (by have := mem_sum wT hx; rw [← wTs_sum] at this; omega) x y W (Nat.le_refl _) (by have := mem_sum wT hx; rw [← wTs_sum] at this; omega) (by have := mem_sum wT hy; rw [← wTs_sum] at this; omega) (ETy.In.keep (Keeps.of_below hb) x ((ETy.ins_iff w kids).1 ht.2.2.2 x hx)) (ETy.In.keep (Keeps.of_below hb) y ((ETy.ins_iff w kids2).1 hu.2.2.2 y hy))
    have ihl := fun (x : Ln) (hx : x ∈ ls) (y : Ln) (hy : y ∈ ls2) (W : World) (hb : Below w.heap.size w W) => rSameLoan_reg x y hb (ht.2.1 x hx) (hu.2.1 y hy) (hsl.2 x hx) (hsl2.2 y hy)
    change Calls _ _ #[.agg #[.int .i64 k, .bool m, .bool g, .slice pl ls.length cl, .slice pk kids.length ck], .agg #[.int .i64 k2, .bool m2, .bool g2, .slice pl2 ls2.length cl2, .slice pk2 kids2.length ck2]] _ _
    have HL0 := hid (@alikes_ne ls ls2)
    have HN0 := hid (@same_ne kids kids2)
    generalize hL : ls.length = L at *
    generalize hN : kids.length = N at *
    generalize hL2 : ls2.length = L2 at *
    generalize hN2 : kids2.length = N2 at *
    have bA : Below w.heap.size w ((w.alloc (.cells #[.int .i64 k, .bool m, .bool g, .slice pl L cl, .slice pk N ck] 43 (0, 0))).alloc (.cells #[.int .i64 k2, .bool m2, .bool g2, .slice pl2 L2 cl2, .slice pk2 N2 ck2] 43 (0, 0))) := ((Below.refl _ _).alloc (Nat.le_refl _) _).alloc (by simp) _
    have X1 : BoxAt ((w.alloc (.cells #[.int .i64 k, .bool m, .bool g, .slice pl L cl, .slice pk N ck] 43 (0, 0))).alloc (.cells #[.int .i64 k2, .bool m2, .bool g2, .slice pl2 L2 cl2, .slice pk2 N2 ck2] 43 (0, 0))) w.heap.size [.int .i64 k, .bool m, .bool g, .slice pl L cl, .slice pk N ck] := (BoxAt.new w _ _).later ((Below.refl _ _).alloc (Nat.le_refl _) _)
    have X2 : BoxAt ((w.alloc (.cells #[.int .i64 k, .bool m, .bool g, .slice pl L cl, .slice pk N ck] 43 (0, 0))).alloc (.cells #[.int .i64 k2, .bool m2, .bool g2, .slice pl2 L2 cl2, .slice pk2 N2 ck2] 43 (0, 0))) (w.heap.size + 1) [.int .i64 k2, .bool m2, .bool g2, .slice pl2 L2 cl2, .slice pk2 N2 ck2] := by
      have := BoxAt.new (w.alloc (.cells #[.int .i64 k, .bool m, .bool g, .slice pl L cl, .slice pk N ck] 43 (0, 0))) [.int .i64 k2, .bool m2, .bool g2, .slice pl2 L2 cl2, .slice pk2 N2 ck2] 43
      rwa [World.size_alloc] at this
    have HB0 := hid bA
    have HX := hid (And.intro X1 X2)
    have HT := hid ht
    have HU := hid hu
    have HIK := hid ihk
    have HIL := hid ihl
    have HL := hid (And.intro hL hN)
    have HL2 := hid (And.intro hL2 hN2)
    have HR := hid hR
    clear bA X1 X2 ht hu ihk ihl hL hN hL2 hN2 hR ih hw hwu hsm hsl hsm2 hsl2
    by_cases h1 : ¬ k = k2
    · have HN : Hid (R = false) := hid (by rw [← HR.out, beq_eq_false_iff_ne.2 h1]; rfl)
      clear HR HL0 HN0
      go_enter Try.func32, Try.ntmps32
      go_wp2_with fail
      go_ret
      exact ⟨ret_bool HN.out.symm, HB0.out⟩
    obtain rfl : k = k2 := Decidable.not_not.1 h1
    clear h1
    by_cases h2 : ¬ m = m2
    · have HN : Hid (R = false) := hid (by rw [← HR.out, beq_eq_false_iff_ne.2 h2]; simp)
      have h2' : (m != m2) = true := by simp [h2]
      clear HR HL0 HN0
      go_enter Try.func32, Try.ntmps32
      go_wp2_with fail
      go_ret
      exact ⟨ret_bool HN.out.symm, HB0.out⟩
    obtain rfl : m = m2 := Decidable.not_not.1 h2
    clear h2
    by_cases h3 : ¬ g = g2
    · have HN : Hid (R = false) := hid (by rw [← HR.out, beq_eq_false_iff_ne.2 h3]; simp)
      clear HR HL0 HN0
      go_enter Try.func32, Try.ntmps32
      go_wp2_with fail
      go_ret
      exact ⟨ret_bool HN.out.symm, HB0.out⟩
    obtain rfl : g = g2 := Decidable.not_not.1 h3
    clear h3
    by_cases h4 : ¬ L = L2
    · have HN : Hid (R = false) := hid (by rw [← HR.out, HL0.out h4]; simp)
      have h4' : ¬ (L : Int) = L2 := by omega
      clear HR HL0 HN0
      go_enter Try.func32, Try.ntmps32
      go_wp2_with fail
      go_ret
      exact ⟨ret_bool HN.out.symm, HB0.out⟩
    obtain rfl : L = L2 := Decidable.not_not.1 h4
    clear h4
    by_cases h5 : ¬ N = N2
    · have HN : Hid (R = false) := hid (by rw [← HR.out, HN0.out h5]; simp)
      have h5' : ¬ (N : Int) = N2 := by omega
      clear HR HL0 HN0
      go_enter Try.func32, Try.ntmps32
      go_wp2_with fail
      go_ret
      exact ⟨ret_bool HN.out.symm, HB0.out⟩
    obtain rfl : N = N2 := Decidable.not_not.1 h5
    clear h5
    replace HR : Hid ((alikes (ls.drop 0) (ls2.drop 0) && sameTs kids kids2) = R) := hid (by rw [← HR.out, List.drop_zero, List.drop_zero]; simp)
    clear HL0 HN0
    go_enter Try.func32, Try.ntmps32
    go_wp2_with fail
    generalize (World.alloc (World.alloc w _) _) = W1 at *
    go_loopg [5] L (fun gf u wx => ∃ i : Nat, u = .int .i64 (i : Int) ∧ i ≤ L ∧ L ≤ i + gf ∧ Hid ((alikes (ls.drop i) (ls2.drop i) && sameTs kids kids2) = R) ∧ Hid (Below W1.heap.size W1 wx))
    case atStart => exact ⟨0, rfl, by omega, by omega, HR, hid (Below.refl _ _)⟩
    case round =>
      obtain ⟨i, rfl, hi, hg, HI, HB⟩ := hrel
      clear HR
      have hbw := HB0.out.trans (HB.out.mono HB0.out.size)
      by_cases hlt : i < L
      · obtain ⟨x, hx⟩ : ∃ x, ls[i]? = some x := ⟨ls[i]'(by rw [HL.out.1]; exact hlt), List.getElem?_eq_getElem _⟩
        obtain ⟨y, hy⟩ : ∃ y, ls2[i]? = some y := ⟨ls2[i]'(by rw [HL2.out.1]; exact hlt), List.getElem?_eq_getElem _⟩
        obtain ⟨b, off, c0, e, _, hxx⟩ := Lies.at (HT.out.1.keep (Keeps.of_below hbw)) (i := i) (by rw [List.length_map, HL.out.1]; exact hlt)
        obtain ⟨b2, off2, c2, e', _, hyy⟩ := Lies.at (HU.out.1.keep (Keeps.of_below hbw)) (i := i) (by rw [List.length_map, HL2.out.1]; exact hlt)
        injection e with e1 e2 e3
        injection e' with e4 e5 e6
        subst e1 e4
        clear e2 e3 e5 e6
        have hxc := hxx i x.cells (by rw [List.getElem?_map, hx]; rfl)
        have hyc := hyy i y.cells (by rw [List.getElem?_map, hy]; rfl)
        have z3 := HX.out.1.later HB.out 3 (.slice (some ⟨b, off, none⟩) L cl) rfl
        have y3 := HX.out.2.later HB.out 3 (.slice (some ⟨b2, off2, none⟩) L cl2) rfl
        have k3 := cell_regrown z3
        have j3 := cell_regrown y3
        have CY := hid (HIL.out x (List.mem_of_getElem? hx) y (List.mem_of_getElem? hy) _ hbw)
        have KX := hid (reg_cells hxc)
        have KY := hid (reg_cells hyc)
        have ZX := hid (lnSize x)
        have ZY := hid (lnSize y)
        have hp := HI.out
        rw [drop_cons hx, drop_cons hy, alikes] at hp
        generalize sameLn x y = q at *
        generalize x.cells = xcs at *
        generalize y.cells = ycs at *
        have HP := hid hp
        have HBW2 := hid hbw
        have i1 : (i : Int) < (L : Int) := by omega
        have i0 : (0 : Int) ≤ (i : Int) := by omega
        clear hx hy hxx hyy hxc hyc hp HI hbw
        go_wp2_with fail
        refine wp_region_quiet_below (by kernel_rfl) (by kernel_rfl) ?_
        repeat (first | ((with_reducible refine wpQuiet_load_at (o := ⟨some 55, _, _, _, _, _⟩) rfl _ _ rfl b (off + i * 4) rfl xcs _ KX.out Try.underlying27 rfl ZX.out ?_); simp only [Act.put, List.setIfInBounds_toArray, List.set_cons_zero, List.set_cons_succ]) | ((with_reducible refine wpQuiet_load_at (o := ⟨some 60, _, _, _, _, _⟩) rfl _ _ rfl b2 (off2 + i * 4) rfl ycs _ KY.out Try.underlying27 rfl ZY.out ?_); simp only [Act.put, List.setIfInBounds_toArray, List.set_cons_zero, List.set_cons_succ]) | go_big_quiet_step (first | (with_reducible exact CY.out _ _)))
        refine wpQuiet_nil ?_
        intro _ hw'
        obtain ⟨⟨dq, osq⟩, hw''⟩ := hw'
        subst hw''
        have B3 := hid (HB.out.trans ((below_regrown wr dq osq).mono HB.out.size))
        have B4 := hid (HBW2.out.trans ((below_regrown wr dq osq).mono HBW2.out.size))
        clear HB CY KX KY HBW2 z3 y3 k3 j3
        cases q
        · have HN : Hid (R = false) := hid (by rw [← HP.out]; rfl)
          clear HP
          go_wp2_with fail
          go_ret
          exact ⟨ret_bool HN.out.symm, B4.out⟩
        · have HN : Hid ((alikes (ls.drop (i + 1)) (ls2.drop (i + 1)) && sameTs kids kids2) = R) := hid (by rw [← HP.out]; rfl)
          clear HP
          go_wp2_with fail
          go_roundg (gk - 1)
          case measure => omega
          case rel => exact ⟨i + 1, by go_num, by omega, by omega, HN, B3⟩
      · have HK : Hid (sameTs (kids.drop 0) (kids2.drop 0) = R) := hid (by have := HI.out; rw [List.drop_eq_nil_of_le (by rw [HL.out.1]; omega), List.drop_eq_nil_of_le (by rw [HL2.out.1]; omega)] at this; rw [List.drop_zero, List.drop_zero]; exact this)
        have z3 := HX.out.1.later HB.out 3 (.slice pl L cl) rfl
        clear HI HIL
        go_wp2_with fail
        have HBB := hid HB.out
        have HBW := hid hbw
        clear HB z3 hbw
        generalize hwq : wr = wq at *
        clear hwq
        go_loopg [6] N (fun gf u wx => ∃ j : Nat, u = .int .i64 (j : Int) ∧ j ≤ N ∧ N ≤ j + gf ∧ Hid (sameTs (kids.drop j) (kids2.drop j) = R) ∧ Hid (Below wq.heap.size wq wx))
        case atStart => exact ⟨0, rfl, by omega, by omega, HK, hid (Below.refl _ _)⟩
        case round =>
          obtain ⟨j, rfl, hj, hg2, HJ, HB⟩ := hrel
          clear HK
          have hbx := HBB.out.trans (HB.out.mono HBB.out.size)
          have hbw := HBW.out.trans (HB.out.mono HBW.out.size)
          by_cases hlt2 : j < N
          · obtain ⟨x, hx⟩ : ∃ x, kids[j]? = some x := ⟨kids[j]'(by rw [HL.out.2]; exact hlt2), List.getElem?_eq_getElem _⟩
            obtain ⟨y, hy⟩ : ∃ y, kids2[j]? = some y := ⟨kids2[j]'(by rw [HL2.out.2]; exact hlt2), List.getElem?_eq_getElem _⟩
            obtain ⟨b, off, c0, e, _, hxx⟩ := Lies.at (HT.out.2.2.1.keep (Keeps.of_below hbw)) (i := j) (by rw [List.length_map, HL.out.2]; exact hlt2)
            obtain ⟨b2, off2, c2, e', _, hyy⟩ := Lies.at (HU.out.2.2.1.keep (Keeps.of_below hbw)) (i := j) (by rw [List.length_map, HL2.out.2]; exact hlt2)
            injection e with e1 e2 e3
            injection e' with e4 e5 e6
            subst e1 e4
            clear e2 e3 e5 e6
            have hxc := hxx j x.cells (by rw [List.getElem?_map, hx]; rfl)
            have hyc := hyy j y.cells (by rw [List.getElem?_map, hy]; rfl)
            have z4 := HX.out.1.later hbx 4 (.slice (some ⟨b, off, none⟩) N ck) rfl
            have y4 := HX.out.2.later hbx 4 (.slice (some ⟨b2, off2, none⟩) N ck2) rfl
            have k4 := cell_regrown z4
            have j4 := cell_regrown y4
            have CY := hid (fun (d : Nat) (os : Array Obj) => Calls.regrown_of (HIK.out x (List.mem_of_getElem? hx) y (List.mem_of_getElem? hy) (grow (redrawn wr d) os) (hbw.trans ((below_regrown wr d os).mono hbw.size))))
            change Hid (∀ d os, Calls _ _ #[.agg x.cells.toArray, .agg y.cells.toArray] _ _) at CY
            have KX := hid (reg_cells hxc)
            have KY := hid (reg_cells hyc)
            have ZX := hid (tySize x)
            have ZY := hid (tySize y)
            have hp := HJ.out
            rw [drop_cons hx, drop_cons hy, sameTs] at hp
            generalize sameT x y = q at *
            generalize x.cells = xcs at *
            generalize y.cells = ycs at *
            have HP := hid hp
            have HBW2 := hid hbw
            have i1 : (j : Int) < (N : Int) := by omega
            have i0 : (0 : Int) ≤ (j : Int) := by omega
            clear hx hy hxx hyy hxc hyc hp HJ hbx hbw
            go_wp2_with fail
            refine wp_region_quiet_below (by kernel_rfl) (by kernel_rfl) ?_
            repeat (first | ((with_reducible refine wpQuiet_load_at (o := ⟨some 74, _, _, _, _, _⟩) rfl _ _ rfl b (off + j * 5) rfl xcs _ KX.out Try.underlying43 rfl ZX.out ?_); simp only [Act.put, List.setIfInBounds_toArray, List.set_cons_zero, List.set_cons_succ]) | ((with_reducible refine wpQuiet_load_at (o := ⟨some 79, _, _, _, _, _⟩) rfl _ _ rfl b2 (off2 + j * 5) rfl ycs _ KY.out Try.underlying43 rfl ZY.out ?_); simp only [Act.put, List.setIfInBounds_toArray, List.set_cons_zero, List.set_cons_succ]) | go_big_quiet_step (first | (with_reducible exact CY.out _ _)))
            refine wpQuiet_nil ?_
            intro _ hw'
            obtain ⟨⟨dq, osq⟩, hw''⟩ := hw'
            subst hw''
            have B3 := hid (HB.out.trans ((below_regrown wr dq osq).mono HB.out.size))
            have B4 := hid (HBW2.out.trans ((below_regrown wr dq osq).mono HBW2.out.size))
            clear HB CY KX KY HBW2 z4 y4 k4 j4
            cases q
            · have HN : Hid (R = false) := hid (by rw [← HP.out]; rfl)
              clear HP
              go_wp2_with fail
              go_ret
              exact ⟨ret_bool HN.out.symm, B4.out⟩
            · have HN : Hid (sameTs (kids.drop (j + 1)) (kids2.drop (j + 1)) = R) := hid (by rw [← HP.out]; rfl)
              clear HP
              go_wp2_with fail
              go_roundg (gk - 1)
              case measure => omega
              case rel => exact ⟨j + 1, by go_num, by omega, by omega, HN, B3⟩
          · have HN : Hid (R = true) := hid (by rw [← HJ.out, List.drop_eq_nil_of_le (by rw [HL.out.2]; omega), List.drop_eq_nil_of_le (by rw [HL2.out.2]; omega)]; rfl)
            have z4 := HX.out.1.later hbx 4 (.slice pk N ck) rfl
            have HBW2 := hid hbw
            clear HJ hbx hbw
            go_wp2_with fail
            go_ret
            exact ⟨ret_bool HN.out.symm, HBW2.out⟩
end Go.Proofs.Ytannfhbocfghkaa.EnvC
/- The document's Same (lienbookref05): are two environments alike? -/
namespace Go.Proofs.Ytannfhbocfghkaa.EnvC
open Go Go.RowKit Go.Lib Go.Sort Go.Proofs.Ytannfhbocfghkaa.EnvP

theorem sameE_len : ∀ {l m : List Bd}, sameE l m = true → l.length = m.length
  | [], [], _ => rfl
  | a :: l, b :: m, h => by rw [sameE, Bool.and_eq_true] at h; rw [List.length_cons, List.length_cons, sameE_len h.2]
  | [], _ :: _, h => by cases h
  | _ :: _, [], h => by cases h
theorem sameE_ne {l m : List Bd} (h : ¬ l.length = m.length) : sameE l m = false := by
  cases e : sameE l m
  · rfl
  · exact absurd (sameE_len e) h

set_option maxHeartbeats 8000000 in
set_option maxRecDepth 100000 in
theorem rSame_any (e f : List Bd) (v u : Value) (w : World) (h : EnvIn w v e) (h' : EnvIn w u f) (hs : ∀ b ∈ e, Small b.ty) (hs' : ∀ b ∈ f, Small b.ty) (hlen : e.length ≤ 1048576) (hlen' : f.length ≤ 1048576) :
    Calls Try.prog 14 #[v, u] w fun r w' => r = .returned (.bool (sameE e f)) ∧ Below w.heap.size w w' := by
  obtain ⟨pe, cap, hcap, rfl⟩ := lies_slice h.1
  obtain ⟨pf, cap', hcap', rfl⟩ := lies_slice h'.1
  obtain ⟨R, hR⟩ : ∃ R, sameE e f = R := ⟨_, rfl⟩
  rw [hR]
  have c1 := fun (x : Bd) (hx : x ∈ e) (y : Bd) (hy : y ∈ f) (W : World) (hb : Below w.heap.size w W) => rSameT_any 1048576 x.ty y.ty W (hs x hx) (Nat.le_refl _) (hs' y hy) (ETy.In.keep (Keeps.of_below hb) _ (h.2 x hx)) (ETy.In.keep (Keeps.of_below hb) _ (h'.2 y hy))
  have hne := @sameE_ne e f
  generalize hL : e.length = L at *
  generalize hL' : f.length = L' at *
  by_cases h0 : ¬ L = L'
  · have HN : Hid (R = false) := hid (by rw [← hR, hne h0])
    have h0' : ¬ (L : Int) = L' := by omega
    clear h h' c1 hne hR
    go_enter Try.func14, Try.ntmps14
    go_wp2_with fail
    go_ret
    exact ⟨ret_bool HN.out.symm, Below.refl _ _⟩
  obtain rfl : L = L' := Decidable.not_not.1 h0
  have HR : Hid (sameE (e.drop 0) (f.drop 0) = R) := hid (by rw [List.drop_zero, List.drop_zero]; exact hR)
  have HE := hid h
  have HF := hid h'
  have HL := hid hL
  have HL' := hid hL'
  have C1 := hid c1
  clear hR h h' hL hL' c1 hs hs' hne h0
  go_enter Try.func14, Try.ntmps14
  go_wp2_with fail
  go_loopg [5] L (fun gf u wx => ∃ j : Nat, u = .int .i64 (j : Int) ∧ j ≤ L ∧ L ≤ j + gf ∧ Hid (sameE (e.drop j) (f.drop j) = R) ∧ Hid (Below w.heap.size w wx))
  case atStart => exact ⟨0, rfl, by omega, by omega, HR, hid (Below.refl _ _)⟩
  case round =>
    obtain ⟨j, rfl, hj, hg2, HJ, HB⟩ := hrel
    clear HR
    have hbw := HB.out
    by_cases hlt2 : j < L
    · obtain ⟨x, hx⟩ : ∃ x, e[j]? = some x := ⟨e[j]'(by rw [HL.out]; exact hlt2), List.getElem?_eq_getElem _⟩
      obtain ⟨y, hy⟩ : ∃ y, f[j]? = some y := ⟨f[j]'(by rw [HL'.out]; exact hlt2), List.getElem?_eq_getElem _⟩
      obtain ⟨b, off, c0, e', _, hxx⟩ := Lies.at (HE.out.1.keep (Keeps.of_below hbw)) (i := j) (by rw [List.length_map, HL.out]; exact hlt2)
      obtain ⟨b2, off2, c2, e'', _, hyy⟩ := Lies.at (HF.out.1.keep (Keeps.of_below hbw)) (i := j) (by rw [List.length_map, HL'.out]; exact hlt2)
      injection e' with e1 e2 e3
      injection e'' with e4 e5 e6
      subst e1 e4
      clear e2 e3 e5 e6
      have hxc := hxx j x.cells (by rw [List.getElem?_map, hx]; rfl)
      have hyc := hyy j y.cells (by rw [List.getElem?_map, hy]; rfl)
      have hxt : ∀ (a : Nat) (u : Value), x.ty.cells[a]? = some u → wr.cell? ⟨b, off + j * 6 + 1 + a, none⟩ = some u := fun a u hu => by
        have := hxc (1 + a) u (by unfold Bd.cells; rw [List.getElem?_append_right (by simp)]; simpa using hu)
        rw [Nat.add_assoc (off + j * 6)]; exact this
      have hyt : ∀ (a : Nat) (u : Value), y.ty.cells[a]? = some u → wr.cell? ⟨b2, off2 + j * 6 + 1 + a, none⟩ = some u := fun a u hu => by
        have := hyc (1 + a) u (by unfold Bd.cells; rw [List.getElem?_append_right (by simp)]; simpa using hu)
        rw [Nat.add_assoc (off2 + j * 6)]; exact this
      have x0 := hxc 0 (.string x.name) rfl
      have y0 := hyc 0 (.string y.name) rfl
      rw [Nat.add_zero] at x0 y0
      have k0 := cell_regrown x0
      have k1 := cell_regrown y0
      have CY := hid (fun (d : Nat) (os : Array Obj) => Calls.regrown_of (C1.out x (List.mem_of_getElem? hx) y (List.mem_of_getElem? hy) (grow (redrawn wr d) os) (hbw.trans ((below_regrown wr d os).mono hbw.size))))
      change Hid (∀ d os, Calls _ _ #[.agg x.ty.cells.toArray, .agg y.ty.cells.toArray] _ _) at CY
      have KX := hid (reg_cells hxt)
      have KY := hid (reg_cells hyt)
      have ZX := hid (tySize x.ty)
      have ZY := hid (tySize y.ty)
      have hp := HJ.out
      rw [drop_cons hx, drop_cons hy, sameE] at hp
      rw [show (bs x.name == bs y.name) = (x.name.toList == y.name.toList) by rw [Lib.toList_data, Lib.toList_data]] at hp
      generalize sameT x.ty y.ty = q at *
      generalize x.ty.cells = xcs at *
      generalize y.ty.cells = ycs at *
      generalize x.name = xn at *
      generalize y.name = yn at *
      have HP := hid hp
      have HBW2 := hid hbw
      have i1 : (j : Int) < (L : Int) := by omega
      have i0 : (0 : Int) ≤ (j : Int) := by omega
      clear hx hy hxx hyy hxc hyc hxt hyt hp HJ hbw x0 y0
      cases hq : (xn.toList == yn.toList)
      all_goals (
        have HP2 := HP.out
        rw [hq] at HP2
        replace HP2 := hid HP2
        clear HP
        go_wp2_with fail
        refine wp_region_quiet_below (by kernel_rfl) (by kernel_rfl) ?_
        repeat (first | ((with_reducible refine wpQuiet_load_at (o := ⟨some 33, _, _, _, _, _⟩) rfl _ _ rfl b (off + j * 6 + 1) rfl xcs _ KX.out Try.underlying43 rfl ZX.out ?_); simp only [Act.put, List.setIfInBounds_toArray, List.set_cons_zero, List.set_cons_succ]) | ((with_reducible refine wpQuiet_load_at (o := ⟨some 38, _, _, _, _, _⟩) rfl _ _ rfl b2 (off2 + j * 6 + 1) rfl ycs _ KY.out Try.underlying43 rfl ZY.out ?_); simp only [Act.put, List.setIfInBounds_toArray, List.set_cons_zero, List.set_cons_succ]) | go_big_quiet_step (first | (with_reducible exact CY.out _ _)))
        refine wpQuiet_nil ?_
        intro _ hw'
        obtain ⟨⟨dq, osq⟩, hw''⟩ := hw'
        subst hw''
        have B3 := hid (HB.out.trans ((below_regrown wr dq osq).mono HB.out.size))
        clear HB CY KX KY HBW2 k0 k1)
      · have HN : Hid (R = false) := hid (by rw [← HP2.out]; rfl)
        clear HP2
        go_wp2_with fail
        go_ret
        exact ⟨ret_bool HN.out.symm, B3.out⟩
      · cases q
        · have HN : Hid (R = false) := hid (by rw [← HP2.out]; rfl)
          clear HP2
          go_wp2_with fail
          go_ret
          exact ⟨ret_bool HN.out.symm, B3.out⟩
        · have HN : Hid (sameE (e.drop (j + 1)) (f.drop (j + 1)) = R) := hid (by rw [← HP2.out]; rfl)
          clear HP2
          go_wp2_with fail
          go_roundg (gk - 1)
          case measure => omega
          case rel => exact ⟨j + 1, by go_num, by omega, by omega, HN, B3⟩
    · have HN : Hid (R = true) := hid (by rw [← HJ.out, List.drop_eq_nil_of_le (by rw [HL.out]; omega), List.drop_eq_nil_of_le (by rw [HL'.out]; omega)]; rfl)
      clear HJ hbw
      go_wp2_with fail
      go_ret
      exact ⟨ret_bool HN.out.symm, HB.out⟩
end Go.Proofs.Ytannfhbocfghkaa.EnvC
/- Contract of env.Hit. -/
namespace Go.Proofs.Ytannfhbocfghkaa.EnvC
open Go Go.RowKit Go.Shelf Go.Lib Go.Sort Go.Proofs.Ytannfhbocfghkaa.EnvP
attribute [local go_sem] Oper.semAt_some

theorem PtOk.keepIt {w w' : World} {x : Pt} (h : PtOk w x) (k : Keeps w w') : PtOk w' x := ⟨h.1.keep k, h.2⟩
def noHit (p : Pl) (wt : Bool) (_ : Bool) (t : ETy) : Bool := !t.loans.any (hitLn p wt)
def hit_one (p : Pl) (wt : Bool) (b : Bd) : Bool := !hitT p wt b.ty
theorem hitLn_eq (p : Pl) (wt : Bool) (x : Ln) : hitLn p wt x = ((x.life.toList == []) && ((x.mt || wt) && overlap x.pl p)) := by unfold hitLn; rw [emp, Bool.and_assoc, Bool.or_comm]

set_option maxHeartbeats 8000000 in
set_option maxRecDepth 100000 in
theorem hit_any (e : List Bd) (p : Pl) (wt : Bool) (v : Value) (w : World) (h : EnvIn w v e) (hs : ∀ b ∈ e, Small b.ty) (hlen : e.length ≤ 1048576) (hp : p.In w) (hps : p.steps.length ≤ 1048576) :
    Calls Try.prog 11 #[v, p.val, .bool wt] w fun r w' => r = .returned (.bool (hit e p wt)) ∧ Below w.heap.size w w' := by
  obtain ⟨pe, cap, hcap, rfl⟩ := lies_slice h.1
  obtain ⟨pc, pq, hpq, hpe⟩ : ∃ pp pq, p.steps.length ≤ pq ∧ p.sv = .slice pp p.steps.length pq := lies_slice hp
  obtain ⟨R, hR⟩ : ∃ R, hit e p wt = R := ⟨_, rfl⟩
  rw [hR]
  have hR2 : (e.all (hit_one p wt)) = !R := by
    rw [← hR]
    unfold hit hit_one
    rw [List.not_any_eq_all_not]
  rw [show p.val = .agg #[.string p.var, p.sv] from rfl, hpe]
  have hov := fun (x : Ln) (W : World) (hx : x.pl.In W) (hxs : x.pl.steps.length ≤ 1048576) (hb : Below w.heap.size w W) => overlap_any x.pl p W hx (hp.keep (Keeps.of_below hb)) hxs hps
  generalize hL : e.length = L at *
  generalize hPS : p.steps.length = PS at *
  have hb1 : Below w.heap.size w (((w.alloc (.cells #[.string p.var, .slice pc PS pq] 25 (0, 0))).alloc (.cells #[.bool wt] 4 (0, 0))).alloc (.cells #[.bool false] 4 (0, 0))) := (((Below.refl _ _).alloc (Nat.le_refl _) _).alloc (by simp) _).alloc (by simp; omega) _
  have X1 : BoxAt (((w.alloc (.cells #[.string p.var, .slice pc PS pq] 25 (0, 0))).alloc (.cells #[.bool wt] 4 (0, 0))).alloc (.cells #[.bool false] 4 (0, 0))) w.heap.size [.string p.var, .slice pc PS pq] := ((BoxAt.new w _ _).later ((Below.refl _ _).alloc (Nat.le_refl _) _)).later ((Below.refl _ _).alloc (Nat.le_refl _) _)
  have X2 : (((w.alloc (.cells #[.string p.var, .slice pc PS pq] 25 (0, 0))).alloc (.cells #[.bool wt] 4 (0, 0))).alloc (.cells #[.bool false] 4 (0, 0))).cell? ⟨w.heap.size + 1, 0, none⟩ = some (.bool wt) := by
    have := Boxed.new (w.alloc (.cells #[.string p.var, .slice pc PS pq] 25 (0, 0))) 4 (.bool wt)
    rw [World.size_alloc] at this
    exact (this.alloc _).cell
  have X3 := Boxed.new ((w.alloc (.cells #[.string p.var, .slice pc PS pq] 25 (0, 0))).alloc (.cells #[.bool wt] 4 (0, 0))) 4 (.bool false)
  rw [World.size_alloc, World.size_alloc] at X3
  change Boxed (((w.alloc (.cells #[.string p.var, .slice pc PS pq] 25 (0, 0))).alloc (.cells #[.bool wt] 4 (0, 0))).alloc (.cells #[.bool false] 4 (0, 0))) (w.heap.size + 1 + 1) _ _ at X3
  have S1 : (((w.alloc (.cells #[.string p.var, .slice pc PS pq] 25 (0, 0))).alloc (.cells #[.bool wt] 4 (0, 0))).alloc (.cells #[.bool false] 4 (0, 0))).heap.size = w.heap.size + 1 + 1 + 1 := by simp
  have HR := hid hR2
  have HL := hid hL
  have HE := hid h
  have HS := hid hs
  have HOV := hid hov
  have HPE := hid hpe
  have HPS := hid hPS
  clear hR hR2 hL h hs hp hov hpe hPS
  refine callsIn_wide (n := 12) |>.1 (callsIn_of_wp_marks Try.func11 rfl trivial ?_ rfl)
  simp only [Try.ntmps11, List.size_toArray, List.length_cons, List.length_nil, Nat.reduceAdd, Nat.reduceSub, Array.replicate_succ, Array.replicate_zero, List.push_toArray, List.append_toArray, List.nil_append, List.cons_append]
  gi_wp2
  generalize World.alloc (World.alloc (World.alloc w _) _) _ = W1 at *
  have HB1 := hid hb1
  have HX1 := hid X1
  have HX2 := hid X2
  have HX3 := hid X3
  have HS1 := hid S1
  clear hb1 X1 X2 X3 S1
  refine wpIn_loop_ghost_k (fun gf act wr => ∃ (i : Nat) (ds : List Deferred) (u7 u8 u9 u10 u14 u15 u16 u17 u18 u19 u20 u21 u22 u23 u24 u25 u26 u27 u28 u29 u30 u31 u32 u33 u34 u35 u36 u37 u38 u39 u40 u41 u42 u43 u44 u45 u46 u47 u48 u49 : Value), act = { tmps := #[.slice pe L cap, .agg #[.string p.var, .slice pc PS pq], .bool wt, undef, .pointer (some ⟨w.heap.size, 0, none⟩), .pointer (some ⟨w.heap.size + 1, 0, none⟩), .pointer (some ⟨w.heap.size + 1 + 1, 0, none⟩), u7, u8, u9, u10, .slice pe L cap, .int .i64 (L : Int), .int .i64 (i : Int), u14, u15, u16, u17, u18, u19, u20, u21, u22, u23, u24, u25, u26, u27, u28, u29, u30, u31, u32, u33, u34, u35, u36, u37, u38, u39, u40, u41, u42, u43, u44, u45, u46, u47, u48, u49], defers := ds } ∧
    i ≤ L ∧ L ≤ i + gf ∧ Hid (Marks (w.heap.size + 1 + 1 + 1) wr ds) ∧ Hid (Below (w.heap.size + 1 + 1) W1 wr) ∧ Hid (W1.heap.size ≤ wr.heap.size) ∧ Hid (Boxed wr (w.heap.size + 1 + 1) 4 (.bool false)) ∧ Hid (((e.drop i).all (hit_one p wt)) = !R)) L ⟨0, [], _, _, _, _, _, _, _, _, _, _, _, _, _, _, _, _, _, _, _, _, _, _, _, _, _, _, _, _, _, _, _, _, _, _, _, _, _, _, _, _, rfl, by omega, by omega, hid trivial, hid (Below.refl _ _), hid (Nat.le_refl _), HX3, hid (by rw [List.drop_zero]; exact HR.out)⟩ ?_
  rintro gk act wr ⟨i, ds, u7, u8, u9, u10, u14, u15, u16, u17, u18, u19, u20, u21, u22, u23, u24, u25, u26, u27, u28, u29, u30, u31, u32, u33, u34, u35, u36, u37, u38, u39, u40, u41, u42, u43, u44, u45, u46, u47, u48, u49, rfl, hi, hg, HM, HB, HZ, HX, HI⟩ J K hJ hK
  have HBW := hid (HB1.out.trans (HB.out.mono (by omega)))
  clear HX3 HR
  by_cases hlt : i < L
  · obtain ⟨x, hx⟩ : ∃ x, e[i]? = some x := ⟨e[i]'(by rw [HL.out]; exact hlt), List.getElem?_eq_getElem _⟩
    obtain ⟨b, off, cap', ev, _, hok, _⟩ := bd_at HE.out hx (HS.out x (List.mem_of_getElem? hx))
    injection ev with e1 e2 e3
    subst e1
    have HA := hid (fun W => all_Pt ⟨b, off + i * 6 + 1, false, x.ty⟩ rfl W)
    have HOK := hid hok
    have HI2 : Hid (((!hitT p wt x.ty) && (e.drop (i + 1)).all (hit_one p wt)) = !R) := hid (by have := HI.out; rw [drop_cons hx, List.all_cons] at this; exact this)
    clear e2 e3 hok hx HI
    obtain ⟨rest, hrest⟩ : ∃ rest, (e.drop (i + 1)).all (hit_one p wt) = rest := ⟨_, rfl⟩
    rw [hrest] at HI2
    have HREST := hid hrest
    clear hrest
    gi_wp2
    refine ⟨trivial, callsIn_wide.2 ((HA.out wr).mono ?_)⟩
    rintro e1 W2 ⟨rfl, hb2, h1, h2, hsz⟩
    have HB2 := hid (HB.out.trans (hb2.mono (by have := HX.out.lt; omega)))
    have HZ2 := hid (Nat.le_trans HZ.out hb2.size)
    have HBW2 := hid (HBW.out.trans (hb2.mono HBW.out.size))
    have HM2 := hid (HM.out.later hb2)
    have HX2' := hid (boxed_below HX.out hb2)
    have HD : Hid (∀ D, { target := .collected D, args := #[] } ∈ ds → D < W2.heap.size) := hid (fun D hm => HM2.out.lt D hm)
    have HS2 : Hid (w.heap.size + 1 + 1 < W2.heap.size) := hid HX2'.out.lt
    clear hb2 HA HB HM HX HZ HBW hsz
    gi_wp2
    refine range_of (n := 12) rfl (by omega) (gf := 51) rfl trivial (enters_of Try.func51 (by kernel_rfl) rfl)
      (walks_Pt 11 (by omega) ⟨b, off + i * 6 + 1, false, x.ty⟩ wr.heap.size (wr.heap.size + 1) W2 h1 h2 (Nat.le_trans (nT_le _) HOK.out.2)) (Below.refl _ _) rfl (fun A B x ks h hc => h.keep hc.keeps)
      (fun st W => Below W2.heap.size W2 W ∧ (∀ y ∈ st, PtOk w y) ∧ (stAll (noHit p wt) st && rest) = !R)
      (fun W => Below w.heap.size w W ∧ Marks (w.heap.size + 1 + 1 + 1) W ds ∧ Boxed W (w.heap.size + 1 + 1) 4 (.bool true) ∧ W2.heap.size ≤ W.heap.size ∧ R = true)
      (fun st A B h k => ⟨h.1.trans (k.below h.1.size), h.2⟩)
      (fun A B h k => ⟨h.1.trans ((k.below h.2.2.2.1).mono (by have := HS2.out; omega)), k.marks h.2.1 HD.out, k.boxed h.2.2.1 HS2.out, Nat.le_trans h.2.2.2.1 k.size, h.2.2.2.2⟩)
      ⟨Below.refl _ _, fun y hy => by rw [List.mem_singleton] at hy; subst hy; exact HOK.out, by rw [← HI2.out]; unfold stAll noHit; rw [List.all_cons, List.all_nil, Bool.and_true, hit_all]⟩ ?round ?done ?stop
    case round =>
      clear HOK HI2 h1 h2 HREST
      rintro l y r W ⟨hB, hok, heq⟩
      have hoy := hok y List.mem_cons_self
      rw [stAll_step (noHit p wt) y r] at heq
      have hok2 := stOk_step hok
      rw [show y.cells.toArray = #[.pointer (some ⟨y.b, y.o, none⟩), .bool y.ins] from rfl]
      have hbx : Below W.heap.size W (W.alloc (.cells #[.pointer (some ⟨y.b, y.o, none⟩), .bool y.ins] 60 (0, 0))) := (Below.refl _ _).alloc (Nat.le_refl _) _
      have hnew := World.alloc_heap_new W (.cells #[.pointer (some ⟨y.b, y.o, none⟩), .bool y.ins] 60 (0, 0))
      have HBX := hid hbx
      have HNEW := hid hnew
      have HBB := hid hB
      have HOY := hid hoy
      have HOK2 := hid hok2
      have HEQ := hid heq
      clear hbx hnew hB hoy hok hok2 heq
      gi_wp2
      refine ⟨Below.keepsFrom HBX.out _, (Below.cellsSame HBX.out).types, fun W4 hb4 hc4 => ?_⟩
      have hn4 := hc4 _ _ HNEW.out rfl
      have d0 : W4.cell? ⟨W.heap.size, 0, none⟩ = some (.pointer (some ⟨y.b, y.o, none⟩)) := by rw [Lib.cell_of_heap hn4]; rfl
      have HB4 := hid ((HBB.out.trans (HBX.out.mono HBB.out.size)).trans hb4)
      have HBW4 := hid (HBW2.out.trans (HB4.out.mono (by have := HS2.out; omega)))
      have HOY4 := hid (PtOk.keepIt HOY.out (Keeps.of_below HBW4.out))
      clear HBX HNEW HBB hb4 hc4 hn4
      obtain ⟨yb, yo, yi, ⟨k, m, g, lv, ls, kv, kids⟩⟩ := y
      have hin := HOY4.out.1.2
      have hlo := HOY4.out.2.loans
      rw [ETy.In] at hin
      obtain ⟨pl, cl, hcl, elv⟩ := lies_slice hin.1
      have hlv := HOY4.out.1.1 3 lv rfl
      subst elv
      dsimp only at d0 hlv
      have HEQ3 : Hid (((!((ls.drop 0).any (hitLn p wt))) && (stAll (noHit p wt) ((Pt.kids ⟨yb, yo, yi, .mk k m g (.slice pl ls.length cl) ls kv kids⟩) ++ r) && rest)) = !R) := hid (by rw [List.drop_zero, ← Bool.and_assoc]; exact HEQ.out)
      have HIN := hid hin
      have HLO := hid hlo
      change Hid (ls.length ≤ 1048576 ∧ ∀ l ∈ ls, l.pl.steps.length ≤ 1048576) at HLO
      have HX4 := hid (boxed_below HX2'.out HB4.out)
      generalize hLL : ls.length = LL at *
      have HLL := hid hLL
      have hLL2 : LL ≤ 1048576 := HLO.out.1
      clear hin hlo hLL HEQ
      gi_wp2
      gi_loopg [28] LL (fun gf u wx => ∃ j : Nat, u = .int .i64 (j : Int) ∧ j ≤ LL ∧ LL ≤ j + gf ∧ Hid (((!((ls.drop j).any (hitLn p wt))) && (stAll (noHit p wt) ((Pt.kids ⟨yb, yo, yi, .mk k m g (.slice pl LL cl) ls kv kids⟩) ++ r) && rest)) = !R) ∧ Hid (Below W4.heap.size W4 wx))
      case atStart => exact ⟨0, rfl, by omega, by omega, HEQ3, hid (Below.refl _ _)⟩
      case round =>
        obtain ⟨j, rfl, hj, hg2, HJ, HBX⟩ := hrel
        clear HEQ3
        by_cases hlt2 : j < LL
        · obtain ⟨x2, hx2⟩ : ∃ x2, ls[j]? = some x2 := ⟨ls[j]'(by rw [HLL.out]; exact hlt2), List.getElem?_eq_getElem _⟩
          obtain ⟨lb, lo, cl2, ev, _, hxx⟩ := Lies.at (HIN.out.1.keep (Keeps.of_below HBX.out)) (i := j) (by rw [List.length_map, HLL.out]; exact hlt2)
          injection ev with e1 e2 e3
          subst e1
          clear e2 e3
          have hxc := hxx j x2.cells (by rw [List.getElem?_map, hx2]; rfl)
          have hix := (HIN.out.2.1 x2 (List.mem_of_getElem? hx2)).keep (Keeps.of_below HBX.out)
          obtain ⟨xp, xq, _, hxe⟩ : ∃ pp pq, x2.pl.steps.length ≤ pq ∧ x2.pl.sv = .slice pp x2.pl.steps.length pq := lies_slice hix
          have hbw := HBW4.out.trans (HBX.out.mono HBW4.out.size)
          have co := fun W hb => HOV.out x2 W (hix.keep (Keeps.of_below (show Below wr.heap.size wr W from hb))) (HLO.out.2 x2 (List.mem_of_getElem? hx2)) (hbw.trans (hb.mono hbw.size))
          have hp := HJ.out
          rw [drop_cons hx2, List.any_cons, hitLn_eq, Bool.not_or, Bool.and_assoc] at hp
          obtain ⟨xl, ⟨xv, xs, xt⟩, xm⟩ := x2
          dsimp only at hxe hp co
          subst hxe
          have v0 := hxc 0 (.string xl) rfl
          have v1 := hxc 1 (.string xv) rfl
          have v2 := hxc 2 (.slice xp xt.length xq) rfl
          have v3 := hxc 3 (.bool xm) rfl
          rw [Nat.add_zero] at v0
          change ∀ W, Below wr.heap.size wr W → Calls _ _ #[.agg #[.string xv, .slice xp xt.length xq], .agg #[.string p.var, p.sv]] _ _ at co
          rw [HPE.out] at co
          generalize overlap ⟨xv, _, xt⟩ p = ov at *
          generalize xt.length = NX at *
          have bA : Below wr.heap.size wr (wr.alloc (.cells #[.string xl, .string xv, .slice xp NX xq, .bool xm] 27 (0, 0))) := (Below.refl _ _).alloc (Nat.le_refl _) _
          have CO := hid (CallsIn.inRound l (callsIn_wide (n := 9) |>.2 (co _ bA)))
          have hbp := HB2.out.trans ((HB4.out.mono (Nat.le_of_lt HS2.out)).trans (HBX.out.mono (Nat.le_trans (Nat.le_of_lt HS2.out) HB4.out.size)))
          have p0 := (hbp.cell (p := ⟨w.heap.size, 0, none⟩) (by show w.heap.size < w.heap.size + 1 + 1; omega)).trans (HX1.out 0 (.string p.var) rfl)
          have p1 := (hbp.cell (p := ⟨w.heap.size, 1, none⟩) (by show w.heap.size < w.heap.size + 1 + 1; omega)).trans (HX1.out 1 (.slice pc PS pq) rfl)
          have p2 := (hbp.cell (p := ⟨w.heap.size + 1, 0, none⟩) (by show w.heap.size + 1 < w.heap.size + 1 + 1; omega)).trans HX2.out
          have p0 := later bA p0
          have p1 := later bA p1
          have p2 := later bA p2
          have HX5 := hid (boxed_below (boxed_below HX4.out HBX.out) bA)
          have B5 := hid (HBX.out.trans (bA.mono HBX.out.size))
          have HP := hid hp
          clear hx2 hxx hxc hix hbw co hp HJ bA hbp HBX HPE
          have hrep : (xl.toList == []) = false ∨ ((xl.toList == []) = true ∧ (xm || wt) = false) ∨ ((xl.toList == []) = true ∧ (xm || wt) = true) := by
            cases (xl.toList == []) <;> cases (xm || wt) <;> simp
          rcases hrep with h0 | ⟨h0, h1⟩ | ⟨h0, h1⟩
          · have HN := HP.out
            rw [h0, Bool.false_and, Bool.not_false, Bool.true_and] at HN
            have HN := hid HN
            clear HP
            gi_wp2
            refine ⟨trivial, ?_⟩
            gi_wp2
            gi_roundg (gk - 1)
            case measure => omega
            case rel => exact ⟨j + 1, by go_num, by omega, by omega, HN, B5⟩
          · have HN := HP.out
            rw [h0, h1, Bool.false_and, Bool.and_false, Bool.not_false, Bool.true_and] at HN
            have HN := hid HN
            rw [Bool.or_eq_false_iff] at h1
            obtain ⟨rfl, rfl⟩ := h1
            clear HP
            gi_wp2
            refine ⟨trivial, ?_⟩
            gi_wp2
            gi_roundg (gk - 1)
            case measure => omega
            case rel => exact ⟨j + 1, by go_num, by omega, by omega, HN, B5⟩
          · have HN := HP.out
            rw [h0, h1, Bool.true_and, Bool.true_and] at HN
            have HN := hid HN
            clear HP
            have hgo : (xm = true ∨ (xm = false ∧ wt = true)) := by cases xm <;> cases wt <;> simp_all
            rcases hgo with rfl | ⟨rfl, rfl⟩
            all_goals (
              clear h1
              gi_wp2
              refine ⟨trivial, CO.out.mono ?_⟩
              rintro e5 W5 ⟨rfl, hb5⟩
              have B6 := hid (B5.out.trans (hb5.mono B5.out.size))
              have hx5 := boxed_below HX5.out hb5
              have hc5 := hx5.cell
              have hf5 := hx5.frozen
              have HX6 := hid hx5
              clear hb5 hx5 CO HX5 B5 v0 v1 v2 v3 p0 p1 p2
              cases ov
              · have HN2 := HN.out
                rw [Bool.not_false, Bool.true_and] at HN2
                have HN2 := hid HN2
                clear HN
                gi_wp2
                gi_roundg (gk - 1)
                case measure => omega
                case rel => exact ⟨j + 1, by go_num, by omega, by omega, HN2, B6⟩
              · have HN2 : Hid (R = true) := hid (by
                  have := HN.out
                  rw [Bool.not_true, Bool.false_and] at this
                  cases R
                  · cases this
                  · rfl)
                have HB6 := hid (HB4.out.trans (B6.out.mono HB4.out.size))
                clear HN
                gi_wp2
                refine ⟨(Below.keepsFrom B6.out _).trans (KeepsFrom.of_grownBy (grownBy_setCell' W5 _ _) (fun j e => by cases e; exact HS2.out)), (HBW2.out.trans (HB6.out.mono (by have := HS2.out; omega))).setCell (by show w.heap.size ≤ w.heap.size + 1 + 1; omega) _, (HM2.out.later HB6.out).set _ _, HX6.out.set _, Nat.le_trans HB6.out.size (by simp [World.setCell]), HN2.out⟩)
        · have HN := HJ.out
          rw [List.drop_eq_nil_of_le (by rw [HLL.out]; omega), List.any_nil, Bool.not_false, Bool.true_and] at HN
          have HN := hid HN
          have HY5 := hid (HOY4.out.1.keep (Keeps.of_below HBX.out))
          clear HJ
          gi_wp2
          exact ⟨Below.keepsFrom HBX.out _, (Below.cellsSame HBX.out).types, _, ⟨HY5.out, HOY4.out.2, rfl⟩, HB4.out.trans (HBX.out.mono HB4.out.size), HOK2.out, HN.out⟩
    case done =>
      rintro D W hD ⟨hB, _, heq⟩ hdef
      have HM3 := hid (Marks.push (HM2.out.later hB) HD.out hD (Nat.le_trans HS2.out hD) hdef)
      have HB3 := hid (HB2.out.trans (hB.mono (by have := HS2.out; omega)))
      have HZ3 := hid (Nat.le_trans HZ2.out hB.size)
      have HX3 := hid (boxed_below HX2'.out hB)
      have HI3 : Hid ((e.drop (i + 1)).all (hit_one p wt) = !R) := hid (by rw [HREST.out, ← heq]; rfl)
      clear hB heq hdef HB2 HM2 HX2' HI2
      gi_wp2
      exact Handed.intro (gk - 1) (by omega) (hJ _ _ _ ⟨i + 1, _, _, _, _, _, _, _, _, _, _, _, _, _, _, _, _, _, _, _, _, _, _, _, _, _, _, _, _, _, _, _, _, _, _, _, _, _, _, _, _, _, rfl, by omega, by omega, HM3, HB3, HZ3, HX3, HI3⟩)
    case stop =>
      rintro D W hD ⟨hB, hm, hx, hs, rfl⟩ hdef
      clear HB2 HM2 HX2' HI2
      gi_wp2
      exact leaves_marks (b := w.heap.size + 1 + 1 + 1) (by intro e; cases e) _ _ (Marks.push hm HD.out hD (Nat.le_trans HS2.out hD) hdef) fun w' hb hc => ⟨_, result_cell rfl _ _ _ _ _ _ _ (hc.boxed hx) rfl Try.underlying4 rfl, rfl, hB.trans (hb.mono (by omega))⟩
  · have HN : Hid (R = false) := hid (by have := HI.out; rw [List.drop_eq_nil_of_le (by rw [HL.out]; omega)] at this; simpa using this)
    have hX := HX.out.cell
    have hF := HX.out.frozen
    clear HI HE HS HL
    gi_wp2
    exact leaves_marks (b := w.heap.size + 1 + 1 + 1) (by intro e; cases e) _ _ (HM.out.set _ _) fun w' hb hc => ⟨_, result_cell rfl _ _ _ _ _ _ _ (hc.boxed (HX.out.set _)) rfl Try.underlying4 rfl, by rw [HN.out], ((HBW.out.setCell (by show w.heap.size ≤ w.heap.size + 1 + 1; omega) _).trans (hb.mono (by omega)))⟩
end Go.Proofs.Ytannfhbocfghkaa.EnvC
/- Contract of lienbooklaw05.awake. -/
namespace Go.Proofs.Ytannfhbocfghkaa.EnvC
open Go Go.RowKit Go.Lib Go.Sort Go.Proofs.Ytannfhbocfghkaa.EnvP

def plX : Pl := ⟨⟨#[120]⟩, .slice none 0 0, []⟩
def plXs (v : Value) (i : Int) : Pl := ⟨⟨#[120]⟩, v, [i]⟩
def lnX : Ln := ⟨⟨#[]⟩, plX, false⟩
def tyI : ETy := .mk 1 false false (.slice none 0 0) [] (.slice none 0 0) []
def tyR (b : Nat) : ETy := .mk 4 false false (.slice (some ⟨b, 0, none⟩) 1 1) [lnX] (.slice (some ⟨b + 1, 0, none⟩) 1 1) [tyI]
def envR (b : Nat) : List Bd := [⟨⟨#[114]⟩, tyR b⟩]
theorem lies_none' {w : World} {size : Nat} : Lies w size (.slice none 0 0) [] := ⟨none, 0, rfl, Nat.le_refl _, fun h => absurd rfl h⟩
theorem lies_one' {w : World} {b : Nat} {cs : List Value} (h : BoxAt w b cs) : Lies w cs.length (.slice (some ⟨b, 0, none⟩) 1 1) [cs] :=
  ⟨some ⟨b, 0, none⟩, 1, rfl, Nat.le_refl _, fun _ => ⟨b, 0, rfl, fun i c hi j u hj => by
    match i, hi with
    | 0, hi =>
      rw [List.getElem?_cons_zero] at hi
      cases hi
      rw [Nat.zero_mul, Nat.zero_add]; try rw [Nat.zero_add]
      exact h j u hj
    | i + 1, hi => simp at hi⟩⟩
theorem env_in {w : World} {b : Nat} (h1 : BoxAt w b lnX.cells) (h2 : BoxAt w (b + 1) tyI.cells) (h3 : BoxAt w (b + 1 + 1 + 1) (Bd.cells ⟨⟨#[114]⟩, tyR b⟩)) : EnvIn w (.slice (some ⟨b + 1 + 1 + 1, 0, none⟩) 1 1) (envR b) := by
  refine ⟨lies_one' h3, fun x hx => ?_⟩
  unfold envR at hx
  rw [List.mem_singleton] at hx
  subst hx
  show (tyR b).In w
  unfold tyR
  rw [ETy.In]
  refine ⟨lies_one' h1, fun l hl => ?_, lies_one' h2, ?_⟩
  · rw [List.mem_singleton] at hl; subst hl; exact lies_none'
  · rw [ETy.Ins, ETy.Ins]
    refine ⟨?_, trivial⟩
    unfold tyI
    rw [ETy.In]
    exact ⟨lies_none', fun l hl => by simp at hl, lies_none', by simp [ETy.Ins]⟩
theorem r1 (v : Value) : overlap (plXs v 0) plX = true := rfl
theorem r2 (v u : Value) : overlap (plXs v 0) (plXs u 1) = false := rfl
theorem r3 (b : Nat) : right (envR b) = true := by rfl
theorem r4 (b : Nat) : hit (envR b) plX true = true := by rfl
theorem r5 (b : Nat) : hit (envR b) plX false = false := by rfl
theorem r6 (b : Nat) : less (envR b) (envR b) = true := by rfl
theorem small_R (b : Nat) : ∀ x ∈ envR b, Small x.ty := by
  intro x hx
  unfold envR at hx
  rw [List.mem_singleton] at hx
  subst hx
  show wT (tyR b) ≤ 1048576
  have : wT (tyR b) = 17 := by rfl
  omega

set_option maxHeartbeats 8000000 in
set_option maxRecDepth 100000 in
theorem awake_any (w : World) : Calls Try.prog 5 #[] w fun r w' => r = .returned (.bool true) ∧ Below w.heap.size w w' := by
  go_enter Try.func5, Try.ntmps5
  go_wp2_with fail
  generalize hA0 : World.alloc w _ = A0
  have s0 : A0.heap.size = w.heap.size + 1 := by rw [← hA0]; simp
  have b0 : Below w.heap.size w A0 := by rw [← hA0]; exact (Below.refl _ _).alloc (Nat.le_refl _) _
  have X0 : BoxAt A0 w.heap.size plX.cells := by rw [← hA0]; exact BoxAt.new w _ _
  generalize hA1 : World.alloc A0 _ = A1
  have s1 : A1.heap.size = w.heap.size + 1 + 1 := by rw [← hA1, World.size_alloc, s0]
  have b1 : Below A0.heap.size A0 A1 := by rw [← hA1]; exact (Below.refl _ _).alloc (Nat.le_refl _) _
  have X1 : BoxAt A1 (w.heap.size + 1) lnX.cells := by rw [← hA1, ← s0]; exact BoxAt.new A0 _ _
  generalize hA2 : World.alloc A1 _ = A2
  have s2 : A2.heap.size = w.heap.size + 1 + 1 + 1 := by rw [← hA2, World.size_alloc, s1]
  have b2 : Below A1.heap.size A1 A2 := by rw [← hA2]; exact (Below.refl _ _).alloc (Nat.le_refl _) _
  have X2 : BoxAt A2 (w.heap.size + 1 + 1) tyI.cells := by rw [← hA2, ← s1]; exact BoxAt.new A1 _ _
  generalize hA3 : World.alloc A2 _ = A3
  have s3 : A3.heap.size = w.heap.size + 1 + 1 + 1 + 1 := by rw [← hA3, World.size_alloc, s2]
  have b3 : Below A2.heap.size A2 A3 := by rw [← hA3]; exact (Below.refl _ _).alloc (Nat.le_refl _) _
  generalize hA4 : World.alloc A3 _ = A4
  have s4 : A4.heap.size = w.heap.size + 1 + 1 + 1 + 1 + 1 := by rw [← hA4, World.size_alloc, s3]
  have b4 : Below A3.heap.size A3 A4 := by rw [← hA4]; exact (Below.refl _ _).alloc (Nat.le_refl _) _
  have X4 : BoxAt A4 (w.heap.size + 1 + 1 + 1 + 1) (Bd.cells ⟨⟨#[114]⟩, tyR (w.heap.size + 1)⟩) := by rw [← hA4, ← s3]; exact BoxAt.new A3 _ _
  generalize hA5 : World.alloc A4 _ = A5
  have b5 : Below A4.heap.size A4 A5 := by rw [← hA5]; exact (Below.refl _ _).alloc (Nat.le_refl _) _
  have X5 : BoxAt A5 (w.heap.size + 1 + 1 + 1 + 1 + 1) (stCells 0) := by rw [← hA5, ← s4]; exact BoxAt.new A4 _ _
  have B05 : Below w.heap.size w A5 := ((((b0.trans (b1.mono b0.size)).trans (b2.mono (by omega))).trans (b3.mono (by omega))).trans (b4.mono (by omega))).trans (b5.mono (by omega))
  have Y0 : BoxAt A5 w.heap.size plX.cells := ((((X0.later b1).later b2).later b3).later b4).later b5
  have Y1 := (((X1.later b2).later b3).later b4).later b5
  have Y2 := ((X2.later b3).later b4).later b5
  have Y4 := X4.later b5
  have HE := hid (env_in Y1 Y2 Y4)
  have HP0 := hid (Y0)
  have HB := hid B05
  have C1 := hid (overlap_any (plXs (.slice (some ⟨w.heap.size + 1 + 1 + 1 + 1 + 1, 0, none⟩) 1 1) 0) plX A5 (lies_one' X5) lies_none' (by show 1 ≤ _; decide) (by show 0 ≤ _; decide))
  rw [r1] at C1
  clear hA0 hA1 hA2 hA3 hA4 hA5 s0 s1 s2 s3 s4 b0 b1 b2 b3 b4 b5 X0 X1 X2 X4 X5 Y0 Y1 Y2 Y4 B05
  refine C1.out.mono ?_
  rintro e1 W1 ⟨rfl, hb1⟩
  have HB1 := hid (HB.out.trans (hb1.mono HB.out.size))
  have HE1 := hid (HE.out.keep (Keeps.of_below hb1))
  have HP1 := hid (HP0.out.later hb1)
  clear hb1 HB HE HP0 C1
  go_wp2_with fail
  generalize hA0 : World.alloc W1 _ = A0
  have s0 : A0.heap.size = W1.heap.size + 1 := by rw [← hA0]; simp
  have b0 : Below W1.heap.size W1 A0 := by rw [← hA0]; exact (Below.refl _ _).alloc (Nat.le_refl _) _
  have X0 : BoxAt A0 W1.heap.size (stCells 0) := by rw [← hA0]; exact BoxAt.new W1 _ _
  generalize hA1 : World.alloc A0 _ = A1
  have b1 : Below A0.heap.size A0 A1 := by rw [← hA1]; exact (Below.refl _ _).alloc (Nat.le_refl _) _
  have X1 : BoxAt A1 (W1.heap.size + 1) (stCells 1) := by rw [← hA1, ← s0]; exact BoxAt.new A0 _ _
  have bb : Below W1.heap.size W1 A1 := b0.trans (b1.mono b0.size)
  have C2 := hid (overlap_any (plXs (.slice (some ⟨W1.heap.size, 0, none⟩) 1 1) 0) (plXs (.slice (some ⟨W1.heap.size + 1, 0, none⟩) 1 1) 1) A1 (lies_one' (X0.later b1)) (lies_one' X1) (by show 1 ≤ _; decide) (by show 1 ≤ _; decide))
  rw [r2] at C2
  have HB2 := hid (HB1.out.trans (bb.mono HB1.out.size))
  have HE2 := hid (HE1.out.keep (Keeps.of_below bb))
  have HP2 := hid (HP1.out.later bb)
  clear hA0 hA1 s0 b0 b1 X0 X1 bb HB1 HE1 HP1
  refine C2.out.mono ?_
  rintro e1 W2 ⟨rfl, hb1⟩
  have HB3 := hid (HB2.out.trans (hb1.mono HB2.out.size))
  have HE3 := hid (HE2.out.keep (Keeps.of_below hb1))
  have HP3 := hid (HP2.out.later hb1)
  clear hb1 HB2 HE2 HP2 C2
  have C3 := hid (rightEnv_any (envR (w.heap.size + 1)) _ W2 HE3.out (small_R _) (by show 1 ≤ _; decide))
  rw [r3] at C3
  go_wp2_with fail
  refine C3.out.mono ?_
  rintro e1 W3 ⟨rfl, hb1⟩
  have HB4 := hid (HB3.out.trans (hb1.mono HB3.out.size))
  have HE4 := hid (HE3.out.keep (Keeps.of_below hb1))
  have HP4 := hid (HP3.out.later hb1)
  clear hb1 HB3 HE3 HP3 C3
  have C4 := hid (hit_any (envR (w.heap.size + 1)) plX true _ W3 HE4.out (small_R _) (by show 1 ≤ _; decide) lies_none' (by decide))
  rw [r4] at C4
  have p0 := box_get HP4.out (j := 0) rfl
  have p1 := box_get HP4.out (j := 1) rfl
  go_wp2_with fail
  refine C4.out.mono ?_
  rintro e1 W4 ⟨rfl, hb1⟩
  have HB5 := hid (HB4.out.trans (hb1.mono HB4.out.size))
  have HE5 := hid (HE4.out.keep (Keeps.of_below hb1))
  have HP5 := hid (HP4.out.later hb1)
  clear hb1 HB4 HE4 HP4 C4 p0 p1
  have C5 := hid (hit_any (envR (w.heap.size + 1)) plX false _ W4 HE5.out (small_R _) (by show 1 ≤ _; decide) lies_none' (by decide))
  rw [r5] at C5
  have p0 := box_get HP5.out (j := 0) rfl
  have p1 := box_get HP5.out (j := 1) rfl
  go_wp2_with fail
  refine C5.out.mono ?_
  rintro e1 W5 ⟨rfl, hb1⟩
  have HB6 := hid (HB5.out.trans (hb1.mono HB5.out.size))
  have HE6 := hid (HE5.out.keep (Keeps.of_below hb1))
  clear hb1 HB5 HE5 HP5 C5 p0 p1
  have C6 := hid (less_any (envR (w.heap.size + 1)) (envR (w.heap.size + 1)) _ _ W5 HE6.out HE6.out (small_R _) (small_R _) (by show 1 ≤ _; decide) (by show 1 ≤ _; decide))
  rw [r6] at C6
  go_wp2_with fail
  refine C6.out.mono ?_
  rintro e1 W6 ⟨rfl, hb1⟩
  have HB7 := hid (HB6.out.trans (hb1.mono HB6.out.size))
  clear hb1 HB6 HE6 C6
  go_wp2_with fail
  go_ret
  exact ⟨rfl, HB7.out⟩
end Go.Proofs.Ytannfhbocfghkaa.EnvC
