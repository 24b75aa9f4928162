/- Texts joined: TextD, TextE. -/
import Derived.Test.YtjkdcladjjpmoaaGreatDoorJ21
import Derived.Test.YtjkdcladjjpmoaaGreatDoorJ11
/- Contract of lienbookref02.Expr. -/
namespace Go.Proofs.YtjkdcladjjpmoaaGreatDoor.TextC
open Go Go.RowKit Go.Lib Go.Sort Go.Proofs.YtjkdcladjjpmoaaGreatDoor.LexP Go.Proofs.YtjkdcladjjpmoaaGreatDoor.TreeP Go.Proofs.YtjkdcladjjpmoaaGreatDoor.LexC Go.Proofs.YtjkdcladjjpmoaaGreatDoor.TreeC Go.Proofs.YtjkdcladjjpmoaaGreatDoor.PageC

set_option maxHeartbeats 8000000 in
set_option maxRecDepth 100000 in
/-- the kids' texts, gathered: what holds ahead of the choice of the kind -/
theorem expr_r : ∀ (n : Nat) (t : Ex) (w : World), wE t ≤ n → n ≤ 1048576 → rightE t = true → t.In w →
    Calls Tryz.prog 51 #[.agg (Ex.cells t).toArray] w fun e w' => e = .returned (.string (Sb (textE t))) ∧ Below w.heap.size w w' := by
  intro n
  induction n using Nat.strongRecOn with
  | ind n ih =>
    intro t w hw hn hr hin
    obtain ⟨i0, hinf, hi0⟩ := Option.map_eq_some_iff.1 str_info
    have hz0 : i0.zero = some (.string ⟨#[]⟩) := by rw [Prod.mk.injEq] at hi0; exact hi0.1
    have hz1 : i0.size = 1 := by rw [Prod.mk.injEq, Prod.mk.injEq] at hi0; exact hi0.2.1
    have hz2 : i0.bytes = 16 := by rw [Prod.mk.injEq, Prod.mk.injEq] at hi0; exact hi0.2.2
    clear hi0
    obtain ⟨k, num, name, m, v, kids⟩ := t
    have hinx := hin
    have hwx := hw
    rw [wE] at hw
    rw [rightE, Bool.and_eq_true] at hr
    rw [Ex.In] at hin
    have hlen := wEs_len kids
    have hlens := len_Es kids
    have hk : (k = 1 ∧ 0 ≤ num ∧ num ≤ 999999999999999999) ∨ k = 2 ∨ (k = 3 ∧ kids.length = 1 ∧ 0 ≤ num ∧ num ≤ 999999999999999999) ∨ (k = 4 ∧ kids.length = 1) ∨ (k = 5 ∧ kids.length = 1) ∨ (k = 6 ∧ kids.length = 1) ∨ k = 7 ∨ (k = 8 ∧ kids.length = 2) ∨ k = 9 := by
      have ha := hr.2
      unfold askE at ha
      repeat' (split at ha)
      all_goals first | (simp at ha; omega) | (simp at ha; done) | omega
    have hmem : ∀ x ∈ kids, ∀ W, Below w.heap.size w W → Calls Tryz.prog 51 #[.agg (Ex.cells x).toArray] W fun e w' => e = .returned (.string (Sb (textE x))) ∧ Below W.heap.size W w' := fun x hx W hb => by
      have := mem_wE (l := kids) hx
      exact ih (wE x) (by omega) x W (Nat.le_refl _) (by omega) (rightEs_mem hr.1 x hx) (Ex.In.keep (Keeps.of_below hb) x ((Ex.ins_iff _ _).1 hin.2.2 x hx))
    obtain ⟨q, cap, rfl, hcap, hqq⟩ := id hin.2.1
    rw [List.length_map] at *
    show Calls _ _ #[.agg #[.int .i64 k, .int .i64 num, .string name, .bool m, .slice q kids.length cap]] _ _
    have hb0 : Below w.heap.size w (w.alloc (.cells #[.int .i64 k, .int .i64 num, .string name, .bool m, .slice q kids.length cap] 51 (0, 0))) := (Below.refl _ _).alloc (Nat.le_refl _) _
    have B0 := hid hb0
    have X0 := hid (BoxAt.new w [.int .i64 k, .int .i64 num, .string name, .bool m, .slice q kids.length cap] 51)
    have O0 : Hid ((w.alloc (.cells #[.int .i64 k, .int .i64 num, .string name, .bool m, .slice q kids.length cap] 51 (0, 0))).ownsRow (w.heap.size + 1) 9 1 (.slice none 0 0) 0 (strs ((kids.map textE).take 0))) := hid (by rw [List.take_zero]; exact World.ownsRow_nil _ _ _ _)
    have HI := hid hin.2.1
    have HM := hid hmem
    have HK := hid hk
    have HLE := hid (show lens (kids.map textE) ≤ 5242880 by rw [← textEs_map]; omega)
    have hls : name.size ≤ 1048576 := by omega
    have hkl : kids.length ≤ 1048576 := by omega
    obtain ⟨R, hR⟩ : ∃ R, textE (.mk k num name m (.slice q kids.length cap) kids) = R := ⟨_, rfl⟩
    rw [hR]
    rw [textE, textEs_map] at hR
    have HAS := hid (fun (W : World) (j : Nat) (u : Ex) (h : Below w.heap.size w W) (hu : kids[j]? = some u) => raside_any (.mk k num name m (.slice q kids.length cap) kids) W j u (Ex.In.keep (Keeps.of_below h) _ hinx) hu (by omega))
    have HR := hid hR
    have HTS := hid (fun (i : Nat) (x : Ex) (h : kids[i]? = some x) => (show (kids.map textE)[i]? = some (textE x) by rw [List.getElem?_map, h]; rfl))
    have HTL := hid (show (kids.map textE).length = kids.length from List.length_map ..)
    generalize kids.map textE = ts at *
    generalize hL : kids.length = L at *
    have HL := hid hL
    clear ih hw hn hr hin hinx hwx hlen hlens hk hmem hcap hqq hb0 hR hL
    go_enter Tryz.func51, Tryz.ntmps51
    go_wp2_with fail
    generalize World.alloc w _ = W0 at *
    go_loopg [3, 4] L (fun gf u v wx => ∃ i : Nat, v = .int .i64 (i : Int) ∧ i ≤ L ∧ L ≤ i + gf ∧ Hid (wx.ownsRow (w.heap.size + 1) 9 1 u i (strs (ts.take i))) ∧ Hid (BoxAt wx w.heap.size [.int .i64 k, .int .i64 num, .string name, .bool m, .slice q L cap]) ∧ Hid (Below w.heap.size w wx))
    case atStart => exact ⟨0, rfl, by omega, by omega, O0, X0, B0⟩
    case round =>
      obtain ⟨i, rfl, hi, hg, HO, HX, HB⟩ := hrel
      clear O0 X0 B0
      have l4 := box_get HX.out (j := 4) rfl
      by_cases hlt : i < L
      · obtain ⟨x, ht⟩ : ∃ x, kids[i]? = some x := ⟨kids[i]'(by rw [HL.out]; exact hlt), List.getElem?_eq_getElem _⟩
        obtain ⟨b, off, cap', e, hcc, hx⟩ := Lies.at (HI.out.keep (Keeps.of_below HB.out)) (i := i) (by rw [List.length_map, HL.out]; exact hlt)
        injection e with e1 e2 e3
        subst e1
        clear e2 e3 hcc
        have hx' : ∀ (j : Nat) (u : Value), (Ex.cells x)[j]? = some u → wr.cell? ⟨b, off + i * 5 + j, none⟩ = some u := hx i _ (by rw [List.getElem?_map, ht]; rfl)
        have hsn : strs (ts.take (i + 1)) = strs (ts.take i) ++ [.string (Sb (textE x))] := by
          rw [List.take_add_one, HTS.out i x ht]
          exact strs_snoc _ _
        have hz := exSize x
        have hcx := HM.out x (List.mem_of_getElem? ht) wr HB.out
        generalize Ex.cells x = fcs at *
        generalize Sb (textE x) = sx at *
        have CC := hid hcx
        have HXX := hid hx'
        have HSN := hid hsn
        have ZF := hid hz
        clear hx hx' ht hsn hz hcx
        go_wp2_with (with_reducible refine wpList_load_at (o := ⟨some 17, _, _, _, _, _⟩) rfl _ _ rfl b (off + i * 5) rfl fcs _ HXX.out Tryz.underlying51 rfl ZF.out ?_)
        with_reducible refine CC.out.mono ?_
        rintro e W3 ⟨rfl, hb3⟩
        have HO3 := hid (owns_below HO.out hb3)
        have B3 := hid (HB.out.trans (hb3.mono HB.out.size))
        have X3 := hid (HX.out.later hb3)
        have hs3 : w.heap.size + 1 ≤ W3.heap.size := by
          have : w.heap.size < W3.heap.size := World.block_lt_of_cell? _ _ (box_get X3.out (j := 0) rfl)
          omega
        clear hb3 CC l4
        go_wp2_with (at_builtin; refine wpList_append_own _ rfl _ _ 46 rfl (w.heap.size + 1) 9 i0 _ 1 16 Tryz.underlying46 hinf hz0 hz1 hz2 rfl (by decide) _ _ _ rfl (HO3.out.alloc _) ⟨W3.heap.size, 0, none⟩ 1 1 [.string sx] rfl rfl ?c1 ?c2 ?c3 ?c4 ?c5 ?_)
        case c1 =>
          intro j u hj
          match j, hj with
          | 0, hj => simp at hj; subst hj; simp [Addr.add]
        case c2 => intro u hu; simp at hu; subst hu; rfl
        case c3 => unfold maxLen; omega
        case c4 => omega
        case c5 => rw [show (W3.alloc _).heap.size = W3.heap.size + 1 from Array.size_push ..]; omega
        intro v' w2 hown' hgrow _
        have g1 : Below (w.heap.size + 1) W3 w2 := ((Below.refl _ _).alloc (by omega) _).grown hgrow (by rw [show (W3.alloc _).heap.size = W3.heap.size + 1 from Array.size_push ..]; omega) (fun k hk => (HO3.out.lt k hk).1)
        have G1 := hid (B3.out.trans (g1.mono (Nat.le_succ _)))
        have G2 : Hid (BoxAt w2 w.heap.size [.int .i64 k, .int .i64 num, .string name, .bool m, .slice (some ⟨b, off, none⟩) L cap]) := hid fun j u hj => (g1.cell (p := ⟨w.heap.size, j, none⟩) (Nat.lt_succ_self _)).trans (X3.out j u hj)
        have K : Hid (w2.ownsRow (w.heap.size + 1) 9 1 v' (i + 1) (strs (ts.take (i + 1)))) := hid (by rw [HSN.out]; exact hown')
        clear hown' hgrow g1
        go_wp2_with fail
        go_roundg (gk - 1)
        case measure => omega
        case rel => exact ⟨i + 1, by go_num, by omega, by omega, K, G2, G1⟩
      · obtain rfl : i = L := by omega
        have hown := HO.out
        have hle : ts.length = i := HTL.out
        rw [← hle, List.take_length] at hown
        have l0 := box_get HX.out (j := 0) rfl
        have HK' := HK.out
        clear HO HK HM
        rcases HK' with ⟨rfl, n1, n2⟩ | rfl | ⟨rfl, h1, n1, n2⟩ | ⟨rfl, h1⟩ | ⟨rfl, h1⟩ | ⟨rfl, h1⟩ | rfl | ⟨rfl, h1⟩ | rfl
        · obtain ⟨d, rfl⟩ : ∃ d : Nat, num = (d : Int) := ⟨num.toNat, by omega⟩
          have K : Hid (R = dec d) := hid HR.out.symm
          have hdg := digits_r d wr (by omega)
          rw [← K.out] at hdg
          have HDG := hid hdg
          have l1 := box_get HX.out (j := 1) rfl
          clear HR hown hle HTS HTL hdg
          go_wp2_with fail
          with_reducible refine HDG.out.mono ?_
          rintro e W5 ⟨rfl, rfl⟩
          clear HDG
          go_wp2_with fail
          go_ret
          exact ⟨rfl, HB.out⟩
        · have K : Hid (name = Sb R) := hid (by rw [← HR.out]; exact (Sb_bs name).symm)
          have l2 := box_get HX.out (j := 2) rfl
          clear HR hown hle HTS HTL
          go_wp2_with fail
          go_ret
          exact ⟨by rw [← K.out]; rfl, HB.out⟩
        · obtain ⟨c, rfl⟩ : ∃ c, kids = [c] := List.length_eq_one_iff.1 (HL.out.trans h1)
          obtain ⟨tc, rfl⟩ : ∃ tc, ts = [tc] := List.length_eq_one_iff.1 (hle.trans h1)
          have hlc : tc.length ≤ 5242880 := by have := HLE.out; simp only [lens] at this; omega
          subst h1
          obtain ⟨g, gc, rfl, hc0⟩ := owns_at (l := [tc]) hown (i := 0) rfl
          obtain ⟨b, off, capx, e, _, hx⟩ := Lies.at (HI.out.keep (Keeps.of_below HB.out)) (i := 0) (by simp)
          injection e with e1 e2 e3
          subst e1
          clear e2 e3
          have hck : wr.cell? ⟨b, off, none⟩ = some (.int .i64 c.kind) := by
            obtain ⟨ck, cn, cs, cm, cv, ckids⟩ := c
            have := hx 0 _ rfl 0 _ rfl
            rw [Nat.zero_mul, Nat.add_zero] at this
            exact this
          generalize hkk : c.kind = ck at *
          have HKK := hid hkk
          obtain ⟨d, rfl⟩ : ∃ d : Nat, num = (d : Int) := ⟨num.toNat, by omega⟩
          have l1 := box_get HX.out (j := 1) rfl
          have hdl := dec_len d
          have k0 := cell_regrown hc0
          have k1 := cell_regrown l1
          have k2 := cell_regrown hck
          have k4 := cell_regrown l4
          have CD := hid (fun dd os => Calls.regrown_of ((digits_r d (grow (redrawn wr dd) os) (by omega)).mono fun e w' h => ⟨h.1, below_of_eq h.2⟩))
          rcases hbb : (ck == 4) with _ | _
          all_goals
            have CI := hid (fun b dd os => Calls.regrown_of ((in_r tc b (grow (redrawn wr dd) os) (by omega)).mono fun e w' h => ⟨h.1, below_of_eq h.2⟩))
            have E : Hid (Sb (inP tc (ck == 4)) ++ Sb [46] ++ Sb (dec d) = Sb R) := hid (by
              rw [Sb_app, Sb_app, ← HR.out]
              show _ = Sb (joinE 3 (d : Int) (bs name) m (c.kind) _ _ [tc])
              rw [HKK.out]; rfl)
            rw [hbb] at E
          · have CIf := hid (fun dd os => CI.out false dd os)
            have hsz1 : (Sb (inP tc false)).size ≤ 5242882 := by rw [Sb_size]; have := inP_len tc false; omega
            have hsz2 : (Sb (dec d)).size ≤ 20 := by rw [Sb_size]; exact hdl
            generalize Sb (inP tc false) = s1 at *
            generalize Sb (dec d) = s2 at *
            clear HR hown hle HTS HTL hx hkk HKK hc0 hck l1 CI
            go_wp2_with fail
            have n1 : ¬ 9223372036854775807 < s1.size + 1 := by omega
            have n2 : ¬ 9223372036854775807 < s1.size + 1 + s2.size := by omega
            refine wp_region_quiet_below (by kernel_rfl) (by kernel_rfl) ?_
            repeat (go_big_quiet_step (first | (with_reducible exact CD.out _ _) | (with_reducible exact CIf.out _ _)))
            refine wpQuiet_nil ?_
            intro _ hw'
            obtain ⟨⟨dq, osq⟩, hw''⟩ := hw'
            subst hw''
            go_wp2_with fail
            go_ret
            exact ⟨by rw [← E.out]; rfl, HB.out.trans ((below_regrown wr dq osq).mono HB.out.size)⟩
          · have CIf := hid (fun dd os => CI.out true dd os)
            have hsz1 : (Sb (inP tc true)).size ≤ 5242882 := by rw [Sb_size]; have := inP_len tc true; omega
            have hsz2 : (Sb (dec d)).size ≤ 20 := by rw [Sb_size]; exact hdl
            generalize Sb (inP tc true) = s1 at *
            generalize Sb (dec d) = s2 at *
            clear HR hown hle HTS HTL hx hkk HKK hc0 hck l1 CI
            go_wp2_with fail
            have n1 : ¬ 9223372036854775807 < s1.size + 1 := by omega
            have n2 : ¬ 9223372036854775807 < s1.size + 1 + s2.size := by omega
            refine wp_region_quiet_below (by kernel_rfl) (by kernel_rfl) ?_
            repeat (go_big_quiet_step (first | (with_reducible exact CD.out _ _) | (with_reducible exact CIf.out _ _)))
            refine wpQuiet_nil ?_
            intro _ hw'
            obtain ⟨⟨dq, osq⟩, hw''⟩ := hw'
            subst hw''
            go_wp2_with fail
            go_ret
            exact ⟨by rw [← E.out]; rfl, HB.out.trans ((below_regrown wr dq osq).mono HB.out.size)⟩
        · obtain ⟨tc, rfl⟩ : ∃ tc, ts = [tc] := List.length_eq_one_iff.1 (hle.trans h1)
          have hsz : (Sb tc).size ≤ 5242880 := by rw [Sb_size]; have := HLE.out; simp only [lens] at this; omega
          subst h1
          obtain ⟨g, gc, rfl, hc0⟩ := owns_at (l := [tc]) hown (i := 0) rfl
          have E : Hid (Sb [42] ++ Sb tc = Sb R) := hid (by rw [Sb_app]; exact congrArg Sb HR.out)
          generalize Sb tc = sc at *
          clear HR hown hle HTS HTL
          go_wp2_with fail
          go_ret
          exact ⟨by rw [← E.out]; rfl, HB.out⟩
        · obtain ⟨tc, rfl⟩ : ∃ tc, ts = [tc] := List.length_eq_one_iff.1 (hle.trans h1)
          have hsz : (Sb tc).size ≤ 5242880 := by rw [Sb_size]; have := HLE.out; simp only [lens] at this; omega
          subst h1
          obtain ⟨g, gc, rfl, hc0⟩ := owns_at (l := [tc]) hown (i := 0) rfl
          have E : Hid (Sb [38] ++ Sb (mutB m) ++ Sb tc = Sb R) := hid (by rw [Sb_app, Sb_app]; exact congrArg Sb HR.out)
          have CM := hid (fun d os => Calls.regrown_of ((mut_r m (grow (redrawn wr d) os)).mono fun e w' h => ⟨h.1, below_of_eq h.2⟩))
          have hms : (Sb (mutB m)).size ≤ 4 := by rw [Sb_size]; exact mut_len m
          have l3 := box_get HX.out (j := 3) rfl
          generalize Sb tc = sc at *
          generalize Sb (mutB m) = sm at *
          clear HR hown hle HTS HTL
          go_wp2_with fail
          have n1 : ¬ 9223372036854775807 < 1 + sm.size := by omega
          have n2 : ¬ 9223372036854775807 < 1 + sm.size + sc.size := by omega
          have k0 := cell_regrown hc0
          have k3 := cell_regrown l3
          refine wp_region_quiet_below (by kernel_rfl) (by kernel_rfl) ?_
          repeat (go_big_quiet_step (with_reducible exact CM.out _ _))
          refine wpQuiet_nil ?_
          intro _ hw'
          obtain ⟨⟨dq, osq⟩, hw''⟩ := hw'
          subst hw''
          go_wp2_with fail
          go_ret
          exact ⟨by rw [← E.out]; rfl, HB.out.trans ((below_regrown wr dq osq).mono HB.out.size)⟩
        · obtain ⟨c, rfl⟩ : ∃ c, kids = [c] := List.length_eq_one_iff.1 (HL.out.trans h1)
          obtain ⟨tc, rfl⟩ : ∃ tc, ts = [tc] := List.length_eq_one_iff.1 (hle.trans h1)
          have hlc : tc.length ≤ 5242880 := by have := HLE.out; simp only [lens] at this; omega
          subst h1
          obtain ⟨g, gc, rfl, hc0⟩ := owns_at (l := [tc]) hown (i := 0) rfl
          obtain ⟨b, off, capx, e, _, hx⟩ := Lies.at (HI.out.keep (Keeps.of_below HB.out)) (i := 0) (by simp)
          injection e with e1 e2 e3
          subst e1
          clear e2 e3
          have hck : wr.cell? ⟨b, off, none⟩ = some (.int .i64 c.kind) := by
            obtain ⟨ck, cn, cs, cm, cv, ckids⟩ := c
            have := hx 0 _ rfl 0 _ rfl
            rw [Nat.zero_mul, Nat.add_zero] at this
            exact this
          generalize hkk : c.kind = ck at *
          have HKK := hid hkk
          have k0 := cell_regrown hc0
          have k2 := cell_regrown hck
          have k4 := cell_regrown l4
          rcases hbb : (ck == 8) with _ | _
          all_goals
            have CI := hid (fun b dd os => Calls.regrown_of ((in_r tc b (grow (redrawn wr dd) os) (by omega)).mono fun e w' h => ⟨h.1, below_of_eq h.2⟩))
            have E : Hid (Sb [98, 111, 120, 32] ++ Sb (inP tc (ck == 8)) = Sb R) := hid (by
              rw [Sb_app, ← HR.out]
              show _ = Sb (joinE 6 num (bs name) m (c.kind) _ _ [tc])
              rw [HKK.out]; rfl)
            rw [hbb] at E
          · have CIf := hid (fun dd os => CI.out false dd os)
            have hsz1 : (Sb (inP tc false)).size ≤ 5242882 := by rw [Sb_size]; have := inP_len tc false; omega
            generalize Sb (inP tc false) = s1 at *
            clear HR hown hle HTS HTL hx hkk HKK hc0 hck CI
            go_wp2_with fail
            have n1 : ¬ 9223372036854775807 < 4 + s1.size := by omega
            refine wp_region_quiet_below (by kernel_rfl) (by kernel_rfl) ?_
            repeat (go_big_quiet_step (with_reducible exact CIf.out _ _))
            refine wpQuiet_nil ?_
            intro _ hw'
            obtain ⟨⟨dq, osq⟩, hw''⟩ := hw'
            subst hw''
            go_wp2_with fail
            go_ret
            exact ⟨by rw [← E.out]; rfl, HB.out.trans ((below_regrown wr dq osq).mono HB.out.size)⟩
          · have CIf := hid (fun dd os => CI.out true dd os)
            have hsz1 : (Sb (inP tc true)).size ≤ 5242882 := by rw [Sb_size]; have := inP_len tc true; omega
            generalize Sb (inP tc true) = s1 at *
            clear HR hown hle HTS HTL hx hkk HKK hc0 hck CI
            go_wp2_with fail
            have n1 : ¬ 9223372036854775807 < 4 + s1.size := by omega
            refine wp_region_quiet_below (by kernel_rfl) (by kernel_rfl) ?_
            repeat (go_big_quiet_step (with_reducible exact CIf.out _ _))
            refine wpQuiet_nil ?_
            intro _ hw'
            obtain ⟨⟨dq, osq⟩, hw''⟩ := hw'
            subst hw''
            go_wp2_with fail
            go_ret
            exact ⟨by rw [← E.out]; rfl, HB.out.trans ((below_regrown wr dq osq).mono HB.out.size)⟩
        · have hln := HLE.out
          have hrl := row_len ts
          have hlies := owns_strs hown
          have CR := hid (fun dd os => Calls.regrown_of ((row_r ts _ (grow (redrawn wr dd) os) (hlies.keep (Keeps.of_below (below_regrown wr dd os))) (by omega) (by omega)).mono fun e w' h => ⟨h.1, below_of_eq h.2⟩))
          have E : Hid (name ++ Sb [40] ++ Sb (TreeP.row ts) ++ Sb [41] = Sb R) := hid (by
            rw [← Sb_bs name, Sb_app, Sb_app, Sb_app]; exact congrArg Sb HR.out)
          have hsz : (Sb (TreeP.row ts)).size ≤ 5242880 := by rw [Sb_size]; omega
          have l2 := box_get HX.out (j := 2) rfl
          have k2 := cell_regrown l2
          generalize Sb (TreeP.row ts) = sr at *
          clear HR hown hle HTS HTL hlies l2
          go_wp2_with fail
          have n1 : ¬ 9223372036854775807 < name.size + 1 := by omega
          have n2 : ¬ 9223372036854775807 < name.size + 1 + sr.size := by omega
          have n3 : ¬ 9223372036854775807 < name.size + 1 + sr.size + 1 := by omega
          refine wp_region_quiet_below (by kernel_rfl) (by kernel_rfl) ?_
          repeat (go_big_quiet_step (with_reducible exact CR.out _ _))
          refine wpQuiet_nil ?_
          intro _ hw'
          obtain ⟨⟨dq, osq⟩, hw''⟩ := hw'
          subst hw''
          go_wp2_with fail
          go_ret
          exact ⟨by rw [← E.out]; rfl, HB.out.trans ((below_regrown wr dq osq).mono HB.out.size)⟩
        · obtain ⟨ka, kb, rfl⟩ : ∃ a b, kids = [a, b] := by
            match kids, HL.out.trans h1 with
            | [a, b], _ => exact ⟨a, b, rfl⟩
          obtain ⟨ta, tb, rfl⟩ : ∃ a b, ts = [a, b] := by
            match ts, hle.trans h1 with
            | [a, b], _ => exact ⟨a, b, rfl⟩
          have hla : ta.length ≤ 5242880 ∧ tb.length ≤ 5242880 := by have := HLE.out; simp only [lens] at this; omega
          subst h1
          obtain ⟨g, gc, e5, hc0⟩ := owns_at (l := [ta, tb]) hown (i := 0) rfl
          obtain ⟨g', gc', e6, hc1⟩ := owns_at (l := [ta, tb]) hown (i := 1) rfl
          rw [e5] at e6
          injection e6 with e6 _ e7
          injection e6 with e6
          injection e6 with e6
          subst e6
          subst e5
          clear e7
          have l2 := box_get HX.out (j := 2) rfl
          have k0 := cell_regrown hc0
          have k1 := cell_regrown hc1
          have k2 := cell_regrown l2
          have XB := HX.out
          have kc0 := cell_regrown (box_get XB (j := 0) rfl)
          have kc1 := cell_regrown (box_get XB (j := 1) rfl)
          have kc3 := cell_regrown (box_get XB (j := 3) rfl)
          have kc4 := cell_regrown l4
          have ca := HAS.out
          have CA0 := hid (fun dd os => Calls.regrown_of (ca (grow (redrawn wr dd) os) 0 ka (HB.out.trans ((below_regrown wr dd os).mono HB.out.size)) rfl))
          have CA1 := hid (fun dd os => Calls.regrown_of (ca (grow (redrawn wr dd) os) 1 kb (HB.out.trans ((below_regrown wr dd os).mono HB.out.size)) rfl))
          simp only [Ex.val, Ex.cells] at CA0 CA1
          rw [show ((0 : Nat) : Int) = 0 from rfl] at CA0
          rw [show ((1 : Nat) : Int) = 1 from rfl] at CA1
          obtain ⟨b0, hb0⟩ : ∃ b, asideB (Ex.str (.mk 8 num name m (.slice q 2 cap) [ka, kb])) ka.str 0 = b := ⟨_, rfl⟩
          obtain ⟨b1, hb1⟩ : ∃ b, asideB (Ex.str (.mk 8 num name m (.slice q 2 cap) [ka, kb])) kb.str 1 = b := ⟨_, rfl⟩
          have hE : Sb (inP ta b0) ++ Sb [32] ++ name ++ Sb [32] ++ Sb (inP tb b1) = Sb R := by
            rw [← Sb_bs name, Sb_app, Sb_app, Sb_app, Sb_app, ← hb0, ← hb1]; exact congrArg Sb HR.out
          have E := hid hE
          rw [hb0] at CA0
          rw [hb1] at CA1
          have CI0 := hid (fun dd os => Calls.regrown_of ((in_r ta b0 (grow (redrawn wr dd) os) (by omega)).mono fun e w' h => ⟨h.1, below_of_eq h.2⟩))
          have CI1 := hid (fun dd os => Calls.regrown_of ((in_r tb b1 (grow (redrawn wr dd) os) (by omega)).mono fun e w' h => ⟨h.1, below_of_eq h.2⟩))
          have hs1 : (Sb (inP ta b0)).size ≤ 5242882 := by rw [Sb_size]; have := inP_len ta b0; omega
          have hs2 : (Sb (inP tb b1)).size ≤ 5242882 := by rw [Sb_size]; have := inP_len tb b1; omega
          generalize Sb (inP ta b0) = s1 at *
          generalize Sb (inP tb b1) = s2 at *
          clear HR hown hle HTS HTL hE hb0 hb1 ca XB hc0 hc1 l2 HAS
          go_wp2_with fail
          have n1 : ¬ 9223372036854775807 < s1.size + 1 := by omega
          have n2 : ¬ 9223372036854775807 < s1.size + 1 + name.size := by omega
          have n3 : ¬ 9223372036854775807 < s1.size + 1 + name.size + 1 := by omega
          have n4 : ¬ 9223372036854775807 < s1.size + 1 + name.size + 1 + s2.size := by omega
          refine wp_region_quiet_below (by kernel_rfl) (by kernel_rfl) ?_
          repeat (go_big_quiet_step (first | (with_reducible exact CA0.out _ _) | (with_reducible exact CA1.out _ _) | (with_reducible exact CI0.out _ _) | (with_reducible exact CI1.out _ _)))
          refine wpQuiet_nil ?_
          intro _ hw'
          obtain ⟨⟨dq, osq⟩, hw''⟩ := hw'
          subst hw''
          go_wp2_with fail
          go_ret
          exact ⟨by rw [← E.out]; rfl, HB.out.trans ((below_regrown wr dq osq).mono HB.out.size)⟩
        · have hln := HLE.out
          have hrl := row_len ts
          have hlies := owns_strs hown
          have CR := hid (fun dd os => Calls.regrown_of ((row_r ts _ (grow (redrawn wr dd) os) (hlies.keep (Keeps.of_below (below_regrown wr dd os))) (by omega) (by omega)).mono fun e w' h => ⟨h.1, below_of_eq h.2⟩))
          have E : Hid (name ++ Sb [40] ++ Sb (TreeP.row ts) ++ Sb [41] = Sb R) := hid (by
            rw [← Sb_bs name, Sb_app, Sb_app, Sb_app]; exact congrArg Sb HR.out)
          have hsz : (Sb (TreeP.row ts)).size ≤ 5242880 := by rw [Sb_size]; omega
          have l2 := box_get HX.out (j := 2) rfl
          have k2 := cell_regrown l2
          generalize Sb (TreeP.row ts) = sr at *
          clear HR hown hle HTS HTL hlies l2
          go_wp2_with fail
          have n1 : ¬ 9223372036854775807 < name.size + 1 := by omega
          have n2 : ¬ 9223372036854775807 < name.size + 1 + sr.size := by omega
          have n3 : ¬ 9223372036854775807 < name.size + 1 + sr.size + 1 := by omega
          refine wp_region_quiet_below (by kernel_rfl) (by kernel_rfl) ?_
          repeat (go_big_quiet_step (with_reducible exact CR.out _ _))
          refine wpQuiet_nil ?_
          intro _ hw'
          obtain ⟨⟨dq, osq⟩, hw''⟩ := hw'
          subst hw''
          go_wp2_with fail
          go_ret
          exact ⟨by rw [← E.out]; rfl, HB.out.trans ((below_regrown wr dq osq).mono HB.out.size)⟩
end Go.Proofs.YtjkdcladjjpmoaaGreatDoor.TextC
/- Contract of lienbookref02.Stmts. -/
namespace Go.Proofs.YtjkdcladjjpmoaaGreatDoor.TextC
open Go Go.RowKit Go.Lib Go.Sort Go.Proofs.YtjkdcladjjpmoaaGreatDoor.LexP Go.Proofs.YtjkdcladjjpmoaaGreatDoor.TreeP Go.Proofs.YtjkdcladjjpmoaaGreatDoor.LexC Go.Proofs.YtjkdcladjjpmoaaGreatDoor.TreeC Go.Proofs.YtjkdcladjjpmoaaGreatDoor.PageC

mutual
theorem len_S (K : Nat) : ∀ (s : St) (tabs : List UInt8), tabs.length + wS s ≤ K → (textS tabs s).length ≤ (8 + 3 * K) * wS s
  | .mk k name place expr tv thn ev els, tabs, h => by
    rw [wS] at h ⊢
    have h1 := len_E place
    have h2 := len_E expr
    have h3 := len_Ss K thn (tabs ++ [9]) (by rw [List.length_append]; simp only [List.length_cons, List.length_nil]; omega)
    have h4 := len_Ss K els (tabs ++ [9]) (by rw [List.length_append]; simp only [List.length_cons, List.length_nil]; omega)
    have h5 : (bs name).length = name.size := (size_eq name).symm
    have hM : 8 + 3 * K ≥ 8 := by omega
    have q0 : (8 + 3 * K) * 5 = 40 + 15 * K := by omega
    generalize 8 + 3 * K = M at *
    have q1 : name.size ≤ M * name.size := Nat.le_mul_of_pos_left _ (by omega)
    have q2 : 8 * wE place ≤ M * wE place := Nat.mul_le_mul_right _ hM
    have q3 : 8 * wE expr ≤ M * wE expr := Nat.mul_le_mul_right _ hM
    simp only [Nat.mul_add]
    rw [textS]
    by_cases k1 : k = 1
    · rw [if_pos k1]; simp only [List.length_append, List.length_cons, List.length_nil]; omega
    rw [if_neg k1]
    by_cases k2 : k = 2
    · rw [if_pos k2]; simp only [List.length_append, List.length_cons, List.length_nil]; omega
    rw [if_neg k2]
    by_cases k3 : k = 3
    · rw [if_pos k3]; simp only [List.length_append, List.length_cons, List.length_nil] at *; omega
    rw [if_neg k3]; simp only [List.length_append, List.length_cons, List.length_nil] at *; omega
theorem len_Ss (K : Nat) : ∀ (l : List St) (tabs : List UInt8), tabs.length + wSs l ≤ K → (textSs tabs l).length ≤ (8 + 3 * K) * wSs l
  | [], tabs, _ => by simp [textSs]
  | x :: xs, tabs, h => by
    rw [wSs] at h ⊢
    have h1 := len_S K x tabs (by omega)
    have h2 := len_Ss K xs tabs (by omega)
    rw [textSs, List.length_append, Nat.mul_add]; omega
end
/-- a bound in plain numbers -/
theorem len_num (l : List St) (tabs : List UInt8) (h : tabs.length + wSs l ≤ 1048577) : (textSs tabs l).length ≤ 4000000000000 := by
  have h1 := len_Ss 1048577 l tabs h
  have h2 : (8 + 3 * 1048577) * wSs l ≤ (8 + 3 * 1048577) * 1048577 := Nat.mul_le_mul_left _ (by omega)
  omega
theorem wSs_take : ∀ (l : List St) (i : Nat), wSs (l.take i) ≤ wSs l
  | [], i => by simp
  | x :: l, 0 => by simp [wSs]
  | x :: l, i + 1 => by rw [List.take_succ_cons, wSs, wSs]; have := wSs_take l i; omega

set_option maxHeartbeats 8000000 in
set_option maxRecDepth 100000 in
theorem stmts_r : ∀ (n : Nat) (l : List St) (v : Value) (tabs : ByteArray) (w : World), wSs l ≤ n → tabs.size + n ≤ 1048576 → rightSs l = true → Lies w 14 v (l.map St.cells) → St.Ins w l →
    Calls Tryz.prog 50 #[v, .string tabs] w fun e w' => e = .returned (.string (Sb (textSs (bs tabs) l))) ∧ Below w.heap.size w w' := by
  intro n
  induction n using Nat.strongRecOn with
  | ind n ih =>
    intro l v tabs w hw ht hr hl hin
    have hlen := wSs_len l
    have hbt : (bs tabs).length = tabs.size := (size_eq tabs).symm
    have htk : ∀ i, (textSs (bs tabs) (l.take i)).length ≤ 4000000000000 := fun i => len_num _ _ (by have := wSs_take l i; omega)
    obtain ⟨p, cap, rfl, hcap, hqq⟩ := id hl
    rw [List.length_map] at *
    have hL4 : l.length ≤ 1048576 := by omega
    have hts : tabs.size ≤ 1048576 := by omega
    obtain ⟨R, hR⟩ : ∃ R, Sb (textSs (bs tabs) l) = R := ⟨_, rfl⟩
    rw [hR]
    have HR := hid hR
    have U0 : Hid ((⟨#[]⟩ : ByteArray) = Sb (textSs (bs tabs) (l.take 0))) := hid (by rw [List.take_zero]; rfl)
    have B0 := hid (Below.refl w.heap.size w)
    generalize hL : l.length = L at *
    have HL := hid hL
    have HX := hid hl
    have HI := hid hin
    have HTK := hid htk
    have HRT := hid hr
    have HW := hid (And.intro hw ht)
    have IH := hid ih
    clear hw ht hr hl hin ih hL hqq hcap hlen htk hR hbt
    go_enter Tryz.func50, Tryz.ntmps50
    go_wp2_with fail
    go_loopg [5, 6] L (fun gf u v wx => ∃ (i : Nat) (s : ByteArray), u = .string s ∧ v = .int .i64 (i : Int) ∧ i ≤ L ∧ L ≤ i + gf ∧ Hid (s = Sb (textSs (bs tabs) (l.take i))) ∧ Hid (Below w.heap.size w wx))
    case atStart => exact ⟨0, _, rfl, rfl, by omega, by omega, U0, B0⟩
    case round =>
      obtain ⟨i, s, rfl, rfl, hi, hg, HS, HB⟩ := hrel
      clear U0 B0
      by_cases hlt : i < L
      · obtain ⟨x, hx0⟩ : ∃ x, l[i]? = some x := ⟨l[i]'(by rw [HL.out]; exact hlt), List.getElem?_eq_getElem _⟩
        obtain ⟨b, off, cap', e, hcc, hx⟩ := Lies.at (HX.out.keep (Keeps.of_below HB.out)) (i := i) (by rw [List.length_map, HL.out]; exact hlt)
        injection e with e1 e2 e3
        subst e1
        clear e2 e3 hcc
        have hx' : ∀ (j : Nat) (u : Value), (St.cells x)[j]? = some u → wr.cell? ⟨b, off + i * 14 + j, none⟩ = some u := hx i _ (by rw [List.getElem?_map, hx0]; rfl)
        have hwx := wSs_get l i x hx0
        have hrx := rightSs_mem HRT.out x (List.mem_of_getElem? hx0)
        have hix := (St.ins_iff w l).1 HI.out x (List.mem_of_getElem? hx0)
        have hss : s.size ≤ 4000000000000 := by rw [HS.out, Sb_size]; exact HTK.out i
        have hj : Sb (textSs (bs tabs) (l.take (i + 1))) = s ++ Sb (textS (bs tabs) x) := by rw [HS.out, Sb_app, textSs_snoc (bs tabs) l i x hx0]
        have hz := stSize x
        have ho := st_ones hix
        unfold Ones at ho
        obtain ⟨k, name, place, expr, tv, thn, ev, els⟩ := x
        rw [wS] at hwx
        rw [rightS] at hrx
        simp only [Bool.and_eq_true] at hrx
        rw [St.In] at hix
        have hW := HW.out
        have y0 : (St.cells (.mk k name place expr tv thn ev els))[0]? = some (.int .i64 k) := rfl
        have y1 : (St.cells (.mk k name place expr tv thn ev els))[1]? = some (.string name) := rfl
        have y12 : (St.mk k name place expr tv thn ev els).cells[12]? = some tv := St.cells_tv ..
        have y13 : (St.mk k name place expr tv thn ev els).cells[13]? = some ev := St.cells_ev ..
        have yp : ∀ (j : Nat) (u : Value), place.cells[j]? = some u → (St.mk k name place expr tv thn ev els).cells[2 + j]? = some u := fun j u h => St.cells_place h
        have ye : ∀ (j : Nat) (u : Value), expr.cells[j]? = some u → (St.mk k name place expr tv thn ev els).cells[7 + j]? = some u := fun j u h => St.cells_expr h
        have hnm : name.size ≤ 1048576 := by omega
        have cE : ∀ W, Below w.heap.size w W → Calls Tryz.prog 51 #[.agg expr.cells.toArray] W fun e w' => e = .returned (.string (Sb (textE expr))) ∧ Below W.heap.size W w' := fun W hb => expr_r (wE expr) expr W (Nat.le_refl _) (by omega) hrx.1.1.1 (Ex.In.keep (Keeps.of_below hb) _ hix.2.1)
        have cP : k = 2 → ∀ W, Below w.heap.size w W → Calls Tryz.prog 51 #[.agg place.cells.toArray] W fun e w' => e = .returned (.string (Sb (textE place))) ∧ Below W.heap.size W w' := fun h2 W hb => expr_r (wE place) place W (Nat.le_refl _) (by omega) (by
          have ha := hrx.2
          unfold askS at ha
          rw [if_neg (by omega), if_pos h2] at ha
          simp only [Bool.and_eq_true] at ha
          exact ha.1.2) (Ex.In.keep (Keeps.of_below hb) _ hix.1)
        have cT : ∀ W, Below w.heap.size w W → Calls Tryz.prog 50 #[tv, .string (tabs ++ ⟨#[9]⟩)] W fun e w' => e = .returned (.string (Sb (textSs (bs tabs ++ [9]) thn))) ∧ Below W.heap.size W w' := fun W hb => by
          have h := IH.out (n - 1) (by omega) thn tv (tabs ++ ⟨#[9]⟩) W (by omega) (by rw [size_tab]; omega) hrx.1.1.2.1 (hix.2.2.1.keep (Keeps.of_below hb)) (St.Ins.keep (Keeps.of_below hb) _ hix.2.2.2.1)
          rw [bs_tab] at h
          exact h
        have cL : ∀ W, Below w.heap.size w W → Calls Tryz.prog 50 #[ev, .string (tabs ++ ⟨#[9]⟩)] W fun e w' => e = .returned (.string (Sb (textSs (bs tabs ++ [9]) els))) ∧ Below W.heap.size W w' := fun W hb => by
          have h := IH.out (n - 1) (by omega) els ev (tabs ++ ⟨#[9]⟩) W (by omega) (by rw [size_tab]; omega) hrx.1.2.1 (hix.2.2.2.2.1.keep (Keeps.of_below hb)) (St.Ins.keep (Keeps.of_below hb) _ hix.2.2.2.2.2)
          rw [bs_tab] at h
          exact h
        have hbt : (bs tabs).length = tabs.size := (size_eq tabs).symm
        have zE : (Sb (textE expr)).size ≤ 5242880 := by rw [Sb_size]; have := len_E expr; omega
        have zP : (Sb (textE place)).size ≤ 5242880 := by rw [Sb_size]; have := len_E place; omega
        have zT : (Sb (textSs (bs tabs ++ [9]) thn)).size ≤ 4000000000000 := by rw [Sb_size]; exact len_num _ _ (by rw [List.length_append]; simp only [List.length_cons, List.length_nil]; omega)
        have zL : (Sb (textSs (bs tabs ++ [9]) els)).size ≤ 4000000000000 := by rw [Sb_size]; exact len_num _ _ (by rw [List.length_append]; simp only [List.length_cons, List.length_nil]; omega)
        have hk : k = 1 ∨ k = 2 ∨ k = 3 ∨ k = 4 := by
          have ha := hrx.2
          unfold askS at ha
          by_cases k1 : k = 1; · exact .inl k1
          by_cases k2 : k = 2; · exact .inr (.inl k2)
          by_cases k3 : k = 3; · exact .inr (.inr (.inl k3))
          by_cases k4 : k = 4; · exact .inr (.inr (.inr k4))
          rw [if_neg k1, if_neg k2, if_neg k3, if_neg k4] at ha
          cases ha
        have hSt : ∀ a b c d : ByteArray, True := fun _ _ _ _ => trivial
        have E1 : k = 1 → s ++ tabs ++ Sb [108, 101, 116, 32] ++ name ++ Sb [32, 61, 32] ++ Sb (textE expr) ++ Sb [59, 10] = Sb (textSs (bs tabs) (l.take (i + 1))) := fun h => by
          rw [hj, HS.out, ← Sb_bs tabs, ← Sb_bs name]; simp only [Sb_app, bs_Sb]; rw [textS, if_pos h]; simp only [List.append_assoc, bs_Sb]
        have E2 : k = 2 → s ++ tabs ++ Sb (textE place) ++ Sb [32, 61, 32] ++ Sb (textE expr) ++ Sb [59, 10] = Sb (textSs (bs tabs) (l.take (i + 1))) := fun h => by
          rw [hj, HS.out, ← Sb_bs tabs]; simp only [Sb_app, bs_Sb]; rw [textS, if_neg (by omega), if_pos h]; simp only [List.append_assoc]
        have E3 : k = 3 → s ++ tabs ++ Sb [105, 102, 32] ++ Sb (textE expr) ++ Sb [32, 123, 10] ++ Sb (textSs (bs tabs ++ [9]) thn) ++ tabs ++ Sb [125, 32, 101, 108, 115, 101, 32, 123, 10] ++ Sb (textSs (bs tabs ++ [9]) els) ++ tabs ++ Sb [125, 10] = Sb (textSs (bs tabs) (l.take (i + 1))) := fun h => by
          rw [hj, HS.out, ← Sb_bs tabs]; simp only [Sb_app, bs_Sb]; rw [textS, if_neg (by omega), if_neg (by omega), if_pos h]; simp only [List.append_assoc]
        have E4 : k = 4 → s ++ tabs ++ Sb [114, 101, 112, 101, 97, 116, 32] ++ Sb (textE expr) ++ Sb [32, 123, 10] ++ Sb (textSs (bs tabs ++ [9]) thn) ++ tabs ++ Sb [125, 10] = Sb (textSs (bs tabs) (l.take (i + 1))) := fun h => by
          rw [hj, HS.out, ← Sb_bs tabs]; simp only [Sb_app, bs_Sb]; rw [textS, if_neg (by omega), if_neg (by omega), if_neg (by omega)]; simp only [List.append_assoc]
        have YE := hid ye
        have YP := hid yp
        have Y := hid (And.intro y0 (And.intro y1 (And.intro y12 y13)))
        have ZX := hid (exSize expr)
        have ZP := hid (exSize place)
        generalize (St.mk k name place expr tv thn ev els).cells = fcs at *
        generalize expr.cells = ecs at *
        generalize place.cells = pcs at *
        generalize Sb (textE expr) = se at *
        generalize Sb (textE place) = sp at *
        generalize Sb (textSs (bs tabs ++ [9]) thn) = st at *
        generalize Sb (textSs (bs tabs ++ [9]) els) = sl at *
        have HE1 := hid E1
        have HE2 := hid E2
        have HE3 := hid E3
        have HE4 := hid E4
        have CE := hid cE
        have CP := hid cP
        have CT := hid cT
        have CL := hid cL
        have hb2 : Below wr.heap.size wr ((wr.alloc (.cells #[.int .i64 0, .string ⟨#[]⟩, .int .i64 0, .int .i64 0, .string ⟨#[]⟩, .bool false, .slice none 0 0, .int .i64 0, .int .i64 0, .string ⟨#[]⟩, .bool false, .slice none 0 0, .slice none 0 0, .slice none 0 0] 111 (0, 0))).setRow wr.heap.size fcs.toArray) := rowed_below' _ _ _
        have hX2 : BoxAt ((wr.alloc (.cells #[.int .i64 0, .string ⟨#[]⟩, .int .i64 0, .int .i64 0, .string ⟨#[]⟩, .bool false, .slice none 0 0, .int .i64 0, .int .i64 0, .string ⟨#[]⟩, .bool false, .slice none 0 0, .slice none 0 0, .slice none 0 0] 111 (0, 0))).setRow wr.heap.size fcs.toArray) wr.heap.size fcs := rowed_box' _ _ _ _
        have B2 := hid (HB.out.trans (hb2.mono HB.out.size))
        have X2 := hid hX2
        have ZF := hid hz
        have ZA : Hid ((Tryz.prog.info? 111).map (·.size) = some fcs.toArray.size) := hid (by rw [List.size_toArray]; exact hz)
        have ZO : Hid ((#[.int .i64 0, .string ⟨#[]⟩, .int .i64 0, .int .i64 0, .string ⟨#[]⟩, .bool false, .slice none 0 0, .int .i64 0, .int .i64 0, .string ⟨#[]⟩, .bool false, .slice none 0 0, .slice none 0 0, .slice none 0 0] : Array Value).size = fcs.toArray.size) := hid (by
          rw [show (Tryz.prog.info? 111).map (·.size) = some 14 by kernel_rfl] at hz
          exact Option.some.inj hz)
        have H1C := hid ho
        have HXX := hid hx'
        have XE : Hid (∀ (j : Nat) (u : Value), ecs[j]? = some u → ((wr.alloc (.cells #[.int .i64 0, .string ⟨#[]⟩, .int .i64 0, .int .i64 0, .string ⟨#[]⟩, .bool false, .slice none 0 0, .int .i64 0, .int .i64 0, .string ⟨#[]⟩, .bool false, .slice none 0 0, .slice none 0 0, .slice none 0 0] 111 (0, 0))).setRow wr.heap.size fcs.toArray).cell? ⟨wr.heap.size, 7 + j, none⟩ = some u) := hid fun j u h => hX2 _ u (YE.out j u h)
        clear hx hx' hx0 hrx hix hj hz ho hW y0 y1 y12 y13 yp ye cE cP cT cL hbt E1 E2 E3 E4 hb2 hX2 hwx hSt HB
        go_wp2_with (first | (with_reducible refine wpList_load_at (o := ⟨some 18, _, _, _, _, _⟩) rfl _ _ rfl b (off + i * 14) rfl fcs _ HXX.out Tryz.underlying111 rfl ZF.out ?_) | (with_reducible refine wpList_store_row (o := ⟨none, _, _, _, _, _⟩) rfl _ _ _ rfl wr.heap.size fcs.toArray rfl rfl _ _ (heap_alloc_new _ _) ZA.out ZO.out H1C.out ?_) | (with_reducible refine wpList_load_at (o := ⟨some 20, _, _, _, _, _⟩) rfl _ _ rfl wr.heap.size 7 rfl ecs _ XE.out Tryz.underlying51 rfl ZX.out ?_))
        with_reducible refine (CE.out _ B2.out).mono ?_
        rintro e W3 ⟨rfl, hb3⟩
        have B3 := hid (B2.out.trans (hb3.mono B2.out.size))
        have X3 := hid (X2.out.later hb3)
        have l0 := box_get X3.out Y.out.1
        clear hb3 CE XE B2 X2 ZF ZA ZO H1C HXX ZX
        rcases hk with rfl | rfl | rfl | rfl
        · have l1 := box_get X3.out Y.out.2.1
          have K := hid (HE1.out rfl)
          clear HE1 HE2 HE3 HE4 CP CT CL HS
          go_wp2_with fail
          go_roundg (gk - 1)
          case measure => omega
          case rel => exact ⟨i + 1, _, rfl, by go_num, by omega, by omega, K, B3⟩
        · have K := hid (HE2.out rfl)
          have XP : Hid (∀ (j : Nat) (u : Value), pcs[j]? = some u → W3.cell? ⟨wr.heap.size, 2 + j, none⟩ = some u) := hid fun j u h => X3.out _ u (YP.out j u h)
          have CC := hid (CP.out rfl W3 B3.out)
          clear HE1 HE2 HE3 HE4 CT CL CP HS
          go_wp2_with (with_reducible refine wpList_load_at (o := ⟨some 59, _, _, _, _, _⟩) rfl _ _ rfl wr.heap.size 2 rfl pcs _ XP.out Tryz.underlying51 rfl ZP.out ?_)
          with_reducible refine CC.out.mono ?_
          rintro e W4 ⟨rfl, hb4⟩
          have B4 := hid (B3.out.trans (hb4.mono B3.out.size))
          clear hb4 CC l0
          go_wp2_with fail
          go_roundg (gk - 1)
          case measure => omega
          case rel => exact ⟨i + 1, _, rfl, by go_num, by omega, by omega, K, B4⟩
        · have l12 := box_get X3.out Y.out.2.2.1
          have l13 := box_get X3.out Y.out.2.2.2
          have K := hid (HE3.out rfl)
          have C1 := hid (fun d os => Calls.regrown_of (CT.out (grow (redrawn W3 d) os) (B3.out.trans ((below_regrown W3 d os).mono B3.out.size))))
          have C2 := hid (fun d os => Calls.regrown_of (CL.out (grow (redrawn W3 d) os) (B3.out.trans ((below_regrown W3 d os).mono B3.out.size))))
          have k12 := cell_regrown l12
          have k13 := cell_regrown l13
          clear HE1 HE2 HE3 HE4 CP CT CL HS
          go_wp2_with fail
          have n1 : ¬ 9223372036854775807 < s.size + tabs.size := by omega
          have n2 : ¬ 9223372036854775807 < s.size + tabs.size + 3 := by omega
          have n3 : ¬ 9223372036854775807 < s.size + tabs.size + 3 + se.size := by omega
          have n4 : ¬ 9223372036854775807 < s.size + tabs.size + 3 + se.size + 3 := by omega
          have n5 : ¬ 9223372036854775807 < s.size + tabs.size + 3 + se.size + 3 + st.size := by omega
          have n6 : ¬ 9223372036854775807 < s.size + tabs.size + 3 + se.size + 3 + st.size + tabs.size := by omega
          have n7 : ¬ 9223372036854775807 < s.size + tabs.size + 3 + se.size + 3 + st.size + tabs.size + 9 := by omega
          have n8 : ¬ 9223372036854775807 < s.size + tabs.size + 3 + se.size + 3 + st.size + tabs.size + 9 + sl.size := by omega
          have n9 : ¬ 9223372036854775807 < s.size + tabs.size + 3 + se.size + 3 + st.size + tabs.size + 9 + sl.size + tabs.size := by omega
          have n10 : ¬ 9223372036854775807 < s.size + tabs.size + 3 + se.size + 3 + st.size + tabs.size + 9 + sl.size + tabs.size + 2 := by omega
          have n11 : ¬ 9223372036854775807 < tabs.size + 1 := by omega
          refine wp_region_quiet_below (by kernel_rfl) (by kernel_rfl) ?_
          repeat (go_big_quiet_step (first | (with_reducible exact C1.out _ _) | (with_reducible exact C2.out _ _)))
          refine wpQuiet_nil ?_
          intro _ hw'
          obtain ⟨⟨dq, osq⟩, hw''⟩ := hw'
          subst hw''
          have B4 := hid (B3.out.trans ((below_regrown W3 dq osq).mono B3.out.size))
          clear n1 n2 n3 n4 n5 n6 n7 n8 n9 n10 n11 k12 k13 C1 C2
          go_wp2_with fail
          go_roundg (gk - 1)
          case measure => omega
          case rel => exact ⟨i + 1, _, rfl, by go_num, by omega, by omega, K, B4⟩
        · have l12 := box_get X3.out Y.out.2.2.1
          have K := hid (HE4.out rfl)
          have CC := hid (CT.out W3 B3.out)
          clear HE1 HE2 HE3 HE4 CP CT CL HS
          go_wp2_with fail
          with_reducible refine CC.out.mono ?_
          rintro e W4 ⟨rfl, hb4⟩
          have B4 := hid (B3.out.trans (hb4.mono B3.out.size))
          clear hb4 CC l0 l12
          go_wp2_with fail
          go_roundg (gk - 1)
          case measure => omega
          case rel => exact ⟨i + 1, _, rfl, by go_num, by omega, by omega, K, B4⟩
      · obtain rfl : i = L := by omega
        have K : Hid (s = R) := hid (by rw [HS.out, ← HR.out, ← HL.out, List.take_length])
        go_wp2_with fail
        go_ret
        exact ⟨by show Ending.returned (.string s) = _; rw [K.out], HB.out⟩
end Go.Proofs.YtjkdcladjjpmoaaGreatDoor.TextC
