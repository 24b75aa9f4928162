/- Contract of lienbookref02.Size. -/
import Derived.Test.YtemflcojebanlaaGreatDoorJ09
import Derived.Test.YtemflcojebanlaaGreatDoorJ10
namespace Go.Proofs.YtemflcojebanlaaGreatDoor.TreeC
open Go Go.RowKit Go.Lib Go.Sort LexP TreeP LexC

theorem sizePas_le : ∀ (n : Nat) (l : List Pa), sizePas n l ≤ n + wPas l
 | n, [] => by simp [sizePas]
 | n, p :: ps => by
  have h1 := sizeT_le p.type
  have h2 := sizePas_le (n + (p.name.size / 100 + sizeT p.type)) ps
  have h3 : p.name.size / 100 ≤ p.name.size := Nat.div_le_self _ _
  rw [sizePas, wPas, wPa]
  split <;> omega
theorem sizeNs_le : ∀ (n : Nat) (l : List ByteArray), sizeNs n l ≤ n + wNs l
 | n, [] => by simp [sizeNs]
 | n, s :: l => by
  have h2 := sizeNs_le (n + s.size / 100) l
  have h3 : s.size / 100 ≤ s.size := Nat.div_le_self _ _
  rw [sizeNs, wNs]
  split <;> omega
def baseF (f : TreeP.Fn) : Nat := 1 + f.name.size / 100 + f.lives.length + f.outs.length + sizeT f.gives + sizeSs 0 f.body + sizeE f.value
theorem sizeF_eq (n : Nat) (f : TreeP.Fn) : sizeF n f = sizeNs (sizeNs (sizePas (n + baseF f) f.pars) f.lives) f.outs := rfl
theorem baseF_le (f : TreeP.Fn) : baseF f + wPas f.pars ≤ wF f + wNs f.lives + wNs f.outs := by
 have h1 := sizeT_le f.gives
 have h2 := sizeSs_le 0 f.body
 have h3 := sizeE_le f.value
 have h4 : f.name.size / 100 ≤ f.name.size := Nat.div_le_self _ _
 have h5 := wNs_len f.lives
 have h6 := wNs_len f.outs
 unfold baseF wF
 omega
theorem slice_one {w : World} {size : Nat} {v : Value} {xs : List (List Value)} (h : Lies w size v xs) : v.oneCell' = true := by
 obtain ⟨p, cap, rfl, _⟩ := h; rfl
theorem fn_cells_one {f : TreeP.Fn} {w : World} (h : f.In w) : (TreeP.Fn.cells f).toArray.all (·.oneCell') = true := by
 obtain ⟨iL, ⟨iP, _⟩, iG, iO, ⟨iB, _⟩, iV⟩ := h
 have h1 := slice_one iL
 have h2 := slice_one iP
 have h3 := slice_one iO
 have h4 := slice_one iB
 obtain ⟨a, b, b1, b2, b3, ⟨c1, c2, c3, c4, c5⟩, d1, d2, d3, d4, ⟨e1, e2, e3, e4, e5, e6⟩⟩ := f
 simp only [Ty.In, Ex.In] at iG iV
 have h5 := slice_one iG.1
 have h6 := slice_one iV.2.1
 simp only at h1 h2 h3 h4 h5 h6
 have o1 : ∀ (s : ByteArray), (Value.string s).oneCell' = true := fun _ => rfl
 have o2 : ∀ (n : Int), (Value.int .i64 n).oneCell' = true := fun _ => rfl
 have o3 : ∀ (n : Bool), (Value.bool n).oneCell' = true := fun _ => rfl
 simp only [TreeP.Fn.cells, Ty.cells, Ex.cells, List.cons_append, List.nil_append, List.all_toArray, List.all_cons, List.all_nil, h1, h2, h3, h4, h5, h6, o1, o2, o3, Bool.and_self]

theorem rowed_below (w : World) (Z : Obj) (cs : Array Value) : Below w.heap.size w ((w.alloc Z).setRow w.heap.size cs) := by
 have h := (Below.refl w.heap.size w).alloc (Nat.le_refl _) Z
 refine ⟨h.os, h.tape, h.output, by simp, fun k hk => ?_⟩
 rw [setRow_other _ _ _ _ (by omega)]
 exact h.block k hk
theorem rowed_box (w : World) (old : Array Value) (T : TypeId) (cs : List Value) : BoxAt ((w.alloc (.cells old T (0, 0))).setRow w.heap.size cs.toArray) w.heap.size cs := fun j u h => by
 rw [cell_setRow_same _ _ _ _ _ _ _ (heap_alloc_new _ _)]
 simp [h]

set_option maxHeartbeats 8000000 in
set_option maxRecDepth 100000 in
theorem rSize_any (l : List TreeP.Fn) (w : World) (v : Value) (hw : wFs l ≤ 1048576) (hin : ProgIn w v l) :
  Calls Tryz.prog 7 #[v] w fun r w' => r = .returned (.int .i64 (sizeFs 0 l : Int)) ∧ Below w.heap.size w w' := by
 obtain ⟨hl, hI⟩ := hin
 have hlen := wFs_len l
 obtain ⟨p, cap, rfl, hcap, hx⟩ := id hl
 rw [List.length_map] at *
 obtain ⟨R, hR⟩ : ∃ R, sizeFs 0 l = R := ⟨_, rfl⟩
 rw [hR]
 generalize hL : l.length = L at *
 have HR := hid hR
 have HL := hid hL
 have HX := hid hl
 have HI := hid hI
 clear hx hL hl hI hR
 go_enter Tryz.func7, Tryz.ntmps7
 go_wp2_with fail
 go_loopg [3, 4, 5, 6, 7, 8] L (fun gf u v _ _ _ _ wx => ∃ i a : Nat, u = .int .i64 (a : Int) ∧ v = .int .i64 (i : Int) ∧ i ≤ L ∧ L ≤ i + gf ∧ a ≤ 4194304 ∧ Hid (sizeFs a (l.drop i) = R) ∧ Hid (Below w.heap.size w wx))
 case atStart => exact ⟨0, 0, rfl, rfl, by omega, by omega, by omega, hid (by rw [List.drop_zero]; exact HR.out), hid (Below.refl _ _)⟩
 case round =>
  obtain ⟨i, a, rfl, rfl, hi, hg, ha, HA, HB⟩ := hrel
  by_cases hlt : i < L
  ·by_cases h4 : a ≤ 400
   ·obtain ⟨f, ht⟩ : ∃ f, l[i]? = some f := ⟨l[i]'(by rw [HL.out]; exact hlt), List.getElem?_eq_getElem _⟩
    obtain ⟨b, off, cap', e, _, hx⟩ := Lies.at (HX.out.keep (Keeps.of_below HB.out)) (i := i) (by rw [List.length_map, HL.out]; exact hlt)
    injection e with e1 e2 e3
    subst e1
    clear e2 e3
    have hx' : ∀ (j : Nat) (u : Value), (TreeP.Fn.cells f)[j]? = some u → wr.cell? ⟨b, off + i * 14 + j, none⟩ = some u := hx i (TreeP.Fn.cells f) (by rw [List.getElem?_map, ht]; rfl)
    have hws := wFs_get l i f ht
    have hin' := Fn.In.keep (Keeps.of_below HB.out) (HI.out f (List.mem_of_getElem? ht))
    have h1c := fn_cells_one hin'
    have hA := HA.out
    rw [drop_cons ht, sizeFs, if_neg (by omega), sizeF_eq] at hA
    have hbf := baseF_le f
    have ZF := hid (fnSize f)
    have ZA : Hid ((Tryz.prog.info? 42).map (·.size) = some (TreeP.Fn.cells f).toArray.size) := hid (by rw [List.size_toArray]; exact fnSize f)
    have ZO : Hid ((#[.string ⟨#[]⟩, .slice none 0 0, .slice none 0 0, .int .i64 0, .string ⟨#[]⟩, .bool false, .slice none 0 0, .slice none 0 0, .slice none 0 0, .int .i64 0, .int .i64 0, .string ⟨#[]⟩, .bool false, .slice none 0 0] : Array Value).size = (TreeP.Fn.cells f).toArray.size) := hid (by
     have h1 := fnSize f
     rw [show (Tryz.prog.info? 42).map (·.size) = some 14 by kernel_rfl] at h1
     exact Option.some.inj h1)
    obtain ⟨iL, ⟨iP, iPs⟩, iG, iO, ⟨iB, iBs⟩, iV⟩ := hin'
    obtain ⟨z0, z1, z2, z7, z8⟩ := fn_one f
    have zg : ∀ j u, f.gives.cells[j]? = some u → (TreeP.Fn.cells f)[3 + j]? = some u := fun j u h => fn_gives h
    have zv : ∀ j u, f.value.cells[j]? = some u → (TreeP.Fn.cells f)[9 + j]? = some u := fun j u h => fn_value h
    have hbd : baseF f = 1 + f.name.size / 100 + f.lives.length + f.outs.length + sizeT f.gives + sizeSs 0 f.body + sizeE f.value := rfl
    have hdi : ((f.name.size : Int)) / 100 = ((f.name.size / 100 : Nat) : Int) := by omega
    have hs1 := sizePas_le (a + baseF f) f.pars
    have hs2 := sizeNs_le (sizePas (a + baseF f) f.pars) f.lives
    have hs3 := sizeNs_le (sizeNs (sizePas (a + baseF f) f.pars) f.lives) f.outs
    have hwl : wNs f.lives + wNs f.outs + wPas f.pars + wSs f.body + wT f.gives + wE f.value + f.name.size ≤ wF f := by unfold wF; omega
    have q5 := wPas_len f.pars
    have q6 := wNs_len f.lives
    have q7 := wNs_len f.outs
    have q1 := sizeT_le f.gives
    have q2 := sizeE_le f.value
    have q3 := sizeSs_le 0 f.body
    have q4 : f.name.size / 100 ≤ f.name.size := Nat.div_le_self _ _
    -- the function is laid into a variable of its own
    obtain ⟨W2, hW2⟩ : ∃ W2, (wr.alloc (.cells #[.string ⟨#[]⟩, .slice none 0 0, .slice none 0 0, .int .i64 0, .string ⟨#[]⟩, .bool false, .slice none 0 0, .slice none 0 0, .slice none 0 0, .int .i64 0, .int .i64 0, .string ⟨#[]⟩, .bool false, .slice none 0 0] 42 (0, 0))).setRow wr.heap.size (TreeP.Fn.cells f).toArray = W2 := ⟨_, rfl⟩
    have hb2 : Below wr.heap.size wr W2 := by rw [← hW2]; exact rowed_below _ _ _
    have hX2 : BoxAt W2 wr.heap.size (TreeP.Fn.cells f) := by rw [← hW2]; exact rowed_box _ _ _ _
    have KW := Keeps.of_below hb2
    have P1 := hid (reg_cells (b := wr.heap.size) (off := 3) (cs := f.gives.cells) (w := W2) fun j u h => hX2 _ u (zg j u h))
    have P2 := hid (reg_cells (b := wr.heap.size) (off := 9) (cs := f.value.cells) (w := W2) fun j u h => hX2 _ u (zv j u h))
    have Z1 := hid (tySize f.gives)
    have Z2 := hid (exSize f.value)
    have c1 := fun d os => Calls.regrown_of (rsizeT_any (wT f.gives) f.gives (grow (redrawn W2 d) os) (Nat.le_refl _) (by omega) (Ty.In.keep (KW.trans (Keeps.of_below (below_regrown W2 d os))) _ iG))
    have c2 := fun d os => Calls.regrown_of (rsizeE_any (wE f.value) f.value (grow (redrawn W2 d) os) (Nat.le_refl _) (by omega) (Ex.In.keep (KW.trans (Keeps.of_below (below_regrown W2 d os))) _ iV))
    have c3 := fun d os => Calls.regrown_of (rsizeS_any (wSs f.body) f.body (grow (redrawn W2 d) os) f.bodyV (Nat.le_refl _) (by omega) (iB.keep (KW.trans (Keeps.of_below (below_regrown W2 d os)))) (St.Ins.keep (KW.trans (Keeps.of_below (below_regrown W2 d os))) _ iBs))
    simp only [Ex.val, Ty.val] at c1 c2
    have c4 : Hid (∀ (k : Nat) (pa : Pa), f.pars[k]? = some pa → ∀ W, Keeps wr W → Calls Tryz.prog 15 #[.agg pa.type.cells.toArray] W fun r w' => r = .returned (.int .i64 (sizeT pa.type : Int)) ∧ Below W.heap.size W w') := hid fun k pa hp W hk => by
     have := wPas_get f.pars k pa hp
     unfold wPa at this
     exact rsizeT_any _ pa.type W (Nat.le_refl _) (by omega) (Ty.In.keep hk _ (iPs pa (List.mem_of_getElem? hp)))
    obtain ⟨lp, lcap, hlv, _, _⟩ := id iL
    obtain ⟨pp, pcap, hpv, _, _⟩ := id iP
    obtain ⟨op, ocap, hov, _, _⟩ := id iO
    rw [List.length_map] at hlv hpv hov
    rw [hlv] at z1 iL
    rw [hpv] at z2 iP
    rw [hov] at z7 iO
    clear hlv hpv hov
    generalize f.gives.cells = gcs at *
    generalize f.value.cells = vcs at *
    generalize TreeP.Fn.cells f = fcs at *
    generalize sizeT f.gives = T1 at *
    generalize sizeE f.value = T2 at *
    generalize sizeSs 0 f.body = T3 at *
    generalize f.name.size / 100 = D at *
    generalize baseF f = BF at *
    generalize wF f = WF at *
    generalize f.name = name at *
    generalize f.pars = pars at *
    generalize f.lives = lives at *
    generalize f.outs = outs at *
    generalize f.bodyV = bodyV at *
    generalize hQ : pars.length = Q at *
    generalize hN : lives.length = N at *
    generalize hO : outs.length = O at *
    have HQ := hid hQ
    have HN := hid hN
    have HO := hid hO
    have HDI := hid hdi
    have HBD := hid hbd
    have k0 := cell_regrown (hX2 _ _ z0)
    have k1 := cell_regrown (hX2 _ _ z1)
    have k7 := cell_regrown (hX2 _ _ z7)
    have k8 := cell_regrown (hX2 _ _ z8)
    have HZ := hid (And.intro z0 (And.intro z1 (And.intro z2 z7)))
    have C1 := hid c1
    have C2 := hid c2
    have C3 := hid c3
    have HW2 := hid hW2
    have B2 := hid hb2
    have X2 := hid hX2
    have H1C := hid h1c
    have IP := hid iP
    have IL := hid iL
    have IO := hid iO
    have HAA := hid hA
    have HC := hid hx'
    clear hx hx' ht c1 c2 c3 iP iL iO iPs iG iB iBs iV z0 z1 z2 z7 z8 zg zv hA hQ hN hO hdi hbd hW2 hb2 hX2 KW h1c
    obtain ⟨go, rfl⟩ : ∃ go : Nat, go = gk := ⟨_, rfl⟩
    obtain ⟨wo, rfl⟩ : ∃ wo : World, wo = wr := ⟨_, rfl⟩
    go_wp2_with (first | (with_reducible refine wpList_load_at (o := ⟨some 22, _, _, _, _, _⟩) rfl _ _ rfl b (off + i * 14) rfl fcs _ HC.out Tryz.underlying42 rfl ZF.out ?_) | (with_reducible refine wpList_store_row (o := ⟨none, _, _, _, _, _⟩) rfl _ _ _ rfl wo.heap.size fcs.toArray rfl rfl _ _ (heap_alloc_new _ _) ZA.out ZO.out H1C.out ?_))
    rw [HW2.out]
    simp only [Act.put]
    refine wp_region_quiet_below (by kernel_rfl) (by kernel_rfl) ?_
    repeat (first | ((with_reducible refine wpQuiet_load_at (o := ⟨some 39, _, _, _, _, _⟩) rfl _ _ rfl wo.heap.size 3 rfl gcs _ P1.out Tryz.underlying34 rfl Z1.out ?_); simp only [Act.put, List.setIfInBounds_toArray, List.set_cons_zero, List.set_cons_succ]) | ((with_reducible refine wpQuiet_load_at (o := ⟨some 47, _, _, _, _, _⟩) rfl _ _ rfl wo.heap.size 9 rfl vcs _ P2.out Tryz.underlying40 rfl Z2.out ?_); simp only [Act.put, List.setIfInBounds_toArray, List.set_cons_zero, List.set_cons_succ]) | go_big_quiet_step (first | (with_reducible exact C1.out _ _) | (with_reducible exact C2.out _ _) | (with_reducible exact C3.out _ _)))
    refine wpQuiet_nil ?_
    intro _ hw'
    obtain ⟨⟨dq, osq⟩, hw''⟩ := hw'
    subst hw''
    have BR := below_regrown W2 dq osq
    have B3 := hid (HB.out.trans (B2.out.mono HB.out.size))
    have B4 := hid (B3.out.trans (BR.mono B3.out.size))
    have K4 := hid ((Keeps.of_below B2.out).trans (Keeps.of_below BR))
    have X4 := hid (X2.out.later BR)
    clear P1 P2 C1 C2 C3 k0 k1 k7 k8 BR
    generalize grow (redrawn W2 dq) osq = W4 at *
    obtain ⟨n1, hn1⟩ : ∃ n1, a + BF = n1 := ⟨_, rfl⟩
    rw [hn1] at HAA hs1 hs2 hs3
    have HE : Hid ((a : Int) + 1 + (name.size : Int) / 100 + (N : Int) + (O : Int) + (T1 : Int) + (T3 : Int) + (T2 : Int) = (n1 : Int)) := hid (by rw [HDI.out, ← hn1, HBD.out]; omega)
    have hn1b : n1 ≤ 3145728 := by omega
    clear hn1
    have d2 := box_get X4.out HZ.out.2.2.1
    go_wp2_with fail
    clear d2
    obtain ⟨s1, hs1e⟩ : ∃ s1, sizePas n1 pars = s1 := ⟨_, rfl⟩
    rw [hs1e] at HAA hs1 hs2 hs3
    have HS1 := hid hs1e
    obtain ⟨s2, hs2e⟩ : ∃ s2, sizeNs s1 lives = s2 := ⟨_, rfl⟩
    rw [hs2e] at HAA hs2 hs3
    have HS2 := hid hs2e
    obtain ⟨s3, hs3e⟩ : ∃ s3, sizeNs s2 outs = s3 := ⟨_, rfl⟩
    rw [hs3e] at HAA hs3
    have HS3 := hid hs3e
    have hwP : wPas pars ≤ 1048576 := by omega
    clear hs1e hs2e hs3e
    go_loopg [3, 6] Q (fun gf u v wx => ∃ k c : Nat, u = .int .i64 (c : Int) ∧ v = .int .i64 (k : Int) ∧ k ≤ Q ∧ Q ≤ k + gf ∧ c ≤ 4194304 ∧ Hid (sizePas c (pars.drop k) = s1) ∧ Hid (Below W4.heap.size W4 wx))
    case atStart => exact ⟨0, n1, by rw [← HE.out], rfl, by omega, by omega, by omega, hid (by rw [List.drop_zero]; exact HS1.out), hid (Below.refl _ _)⟩
    case round =>
     obtain ⟨k, c, rfl, rfl, hk, hgk, hc, HCC, HBi⟩ := hrel
     have KI := hid (K4.out.trans (Keeps.of_below HBi.out))
     have X5 := hid (X4.out.later HBi.out)
     have d2 := box_get X5.out HZ.out.2.2.1
     by_cases hkQ : k < Q
     ·by_cases hc4 : c ≤ 400
      ·obtain ⟨pa, hpa⟩ : ∃ pa, pars[k]? = some pa := ⟨pars[k]'(by rw [HQ.out]; exact hkQ), List.getElem?_eq_getElem _⟩
       obtain ⟨b2, off2, cap2, e, _, hx2⟩ := Lies.at (IP.out.keep KI.out) (i := k) (by rw [List.length_map, HQ.out]; exact hkQ)
       injection e with e1 e2 e3
       subst e1
       clear e2 e3
       have hx3 : ∀ (j : Nat) (u : Value), (Pa.cells pa)[j]? = some u → wr.cell? ⟨b2, off2 + k * 5 + j, none⟩ = some u := hx2 k (Pa.cells pa) (by rw [List.getElem?_map, hpa]; rfl)
       have y0 : wr.cell? ⟨b2, off2 + k * 5, none⟩ = some (.string pa.name) := hx3 0 _ rfl
       have PT := hid (reg_cells (b := b2) (off := off2 + k * 5 + 1) (cs := pa.type.cells) (w := wr) fun j u h => by rw [Nat.add_assoc]; exact hx3 _ u (pa_type h))
       have cD := fun d os => Calls.regrown_of (c4.out k pa hpa (grow (redrawn wr d) os) (KI.out.trans (Keeps.of_below (below_regrown wr d os))))
       have hKc := HCC.out
       rw [drop_cons hpa, sizePas, if_neg (by omega)] at hKc
       have hpw := wPas_get pars k pa hpa
       unfold wPa at hpw
       have hst := sizeT_le pa.type
       have hdp : ((pa.name.size : Int)) / 100 = ((pa.name.size / 100 : Nat) : Int) := by omega
       have hdq : pa.name.size / 100 ≤ pa.name.size := Nat.div_le_self _ _
       have ZP := hid (tySize pa.type)
       generalize sizeT pa.type = q at *
       generalize pa.type.cells = pcs at *
       generalize pa.name.size / 100 = DP at *
       generalize pa.name = pname at *
       have HDP := hid hdp
       have CD := hid cD
       have KC := hid hKc
       have k0 := cell_regrown y0
       have k2 := cell_regrown d2
       clear hx2 hx3 cD hKc hpa hdp y0
       go_wp2_with fail
       refine wp_region_quiet_below (by kernel_rfl) (by kernel_rfl) ?_
       repeat (first | ((with_reducible refine wpQuiet_load_at (o := ⟨some 76, _, _, _, _, _⟩) rfl _ _ rfl b2 (off2 + k * 5 + 1) rfl pcs _ PT.out Tryz.underlying34 rfl ZP.out ?_); simp only [Act.put, List.setIfInBounds_toArray, List.set_cons_zero, List.set_cons_succ]) | go_big_quiet_step (with_reducible exact CD.out _ _))
       refine wpQuiet_nil ?_
       intro _ hw'
       obtain ⟨⟨dq2, osq2⟩, hw''⟩ := hw'
       subst hw''
       have HB2 := hid (HBi.out.trans ((below_regrown wr dq2 osq2).mono HBi.out.size))
       clear k0 k2 d2
       go_wp2_with fail
       go_roundg (gk - 1)
       case measure => omega
       case rel => exact ⟨k + 1, c + (DP + q), by rw [HDP.out]; go_num, by go_num, by omega, by omega, by omega, KC, HB2⟩
      ·obtain rfl : c = s1 := by
        have h := HCC.out
        obtain ⟨pa, hpa⟩ : ∃ pa, pars[k]? = some pa := ⟨pars[k]'(by rw [HQ.out]; exact hkQ), List.getElem?_eq_getElem _⟩
        rw [drop_cons hpa, sizePas, if_pos (by omega)] at h
        exact h
       have d1 := box_get X5.out HZ.out.2.1
       have HBw := hid (B4.out.trans (HBi.out.mono B4.out.size))
       have KR := KI
       go_wp2_with fail
       clear d1 d2
       clear HCC
       obtain ⟨wn, rfl⟩ : ∃ wn : World, wn = wr := ⟨_, rfl⟩
       go_loopg [3, 7] N (fun gf u v wx => ∃ k c : Nat, u = .int .i64 (c : Int) ∧ v = .int .i64 (k : Int) ∧ k ≤ N ∧ N ≤ k + gf ∧ c ≤ 4194304 ∧ Hid (sizeNs c (lives.drop k) = s2) ∧ wx = wn)
       case atStart => exact ⟨0, _, rfl, rfl, by omega, by omega, by omega, hid (by rw [List.drop_zero]; exact HS2.out), rfl⟩
       case round =>
        obtain ⟨k3, c3, rfl, rfl, hk3, hgk3, hc3, HC3, rfl⟩ := hrel
        have d1 := box_get X5.out HZ.out.2.1
        by_cases hk3N : k3 < N
        ·obtain ⟨nm, hnm⟩ : ∃ nm, lives[k3]? = some nm := ⟨lives[k3]'(by rw [HN.out]; exact hk3N), List.getElem?_eq_getElem _⟩
         by_cases hc34 : c3 ≤ 400
         ·obtain ⟨b3, off3, cap3, e, _, hx2⟩ := Lies.at (IL.out.keep KR.out) (i := k3) (by rw [List.length_map, HN.out]; exact hk3N)
          injection e with e1 e2 e3
          subst e1
          clear e2 e3
          have y0 : wr.cell? ⟨b3, off3 + k3, none⟩ = some (.string nm) := by simpa using hx2 k3 (nmCells nm) (by rw [List.getElem?_map, hnm]; rfl) 0 _ rfl
          have hKc := HC3.out
          rw [drop_cons hnm, sizeNs, if_neg (by omega)] at hKc
          have hpw := wNs_get lives k3 nm hnm
          have hdp : ((nm.size : Int)) / 100 = ((nm.size / 100 : Nat) : Int) := by omega
          have hdq : nm.size / 100 ≤ nm.size := Nat.div_le_self _ _
          generalize nm.size / 100 = DP at *
          have HDP := hid hdp
          have KC := hid hKc
          clear hx2 hKc hnm hdp
          go_wp2_with fail
          go_roundg (gk - 1)
          case measure => omega
          case rel => exact ⟨k3 + 1, c3 + DP, by rw [HDP.out]; go_num, by go_num, by omega, by omega, by omega, KC, rfl⟩
         ·obtain rfl : c3 = s2 := by
           have h := HC3.out
           rw [drop_cons hnm, sizeNs, if_pos (by omega)] at h
           exact h
          clear hnm
          have d7 := box_get X5.out HZ.out.2.2.2
          clear HC3
          go_wp2_with fail
          clear d7 d1
          obtain ⟨wn, rfl⟩ : ∃ wn : World, wn = wr := ⟨_, rfl⟩
          go_loopg [3, 8] O (fun gf u v wx => ∃ k c : Nat, u = .int .i64 (c : Int) ∧ v = .int .i64 (k : Int) ∧ k ≤ O ∧ O ≤ k + gf ∧ c ≤ 4194304 ∧ Hid (sizeNs c (outs.drop k) = s3) ∧ wx = wn)
          case atStart => exact ⟨0, _, rfl, rfl, by omega, by omega, by omega, hid (by rw [List.drop_zero]; exact HS3.out), rfl⟩
          case round =>
           obtain ⟨k4, c4', rfl, rfl, hk4, hgk4, hc4', HC4, rfl⟩ := hrel
           have d7 := box_get X5.out HZ.out.2.2.2
           by_cases hk4N : k4 < O
           ·obtain ⟨nm, hnm⟩ : ∃ nm, outs[k4]? = some nm := ⟨outs[k4]'(by rw [HO.out]; exact hk4N), List.getElem?_eq_getElem _⟩
            by_cases hc44 : c4' ≤ 400
            ·obtain ⟨b3, off3, cap3, e, _, hx2⟩ := Lies.at (IO.out.keep KR.out) (i := k4) (by rw [List.length_map, HO.out]; exact hk4N)
             injection e with e1 e2 e3
             subst e1
             clear e2 e3
             have y0 : wr.cell? ⟨b3, off3 + k4, none⟩ = some (.string nm) := by simpa using hx2 k4 (nmCells nm) (by rw [List.getElem?_map, hnm]; rfl) 0 _ rfl
             have hKc := HC4.out
             rw [drop_cons hnm, sizeNs, if_neg (by omega)] at hKc
             have hpw := wNs_get outs k4 nm hnm
             have hdp : ((nm.size : Int)) / 100 = ((nm.size / 100 : Nat) : Int) := by omega
             have hdq : nm.size / 100 ≤ nm.size := Nat.div_le_self _ _
             generalize nm.size / 100 = DP at *
             have HDP := hid hdp
             have KC := hid hKc
             clear hx2 hKc hnm hdp
             go_wp2_with fail
             go_roundg (gk - 1)
             case measure => omega
             case rel => exact ⟨k4 + 1, c4' + DP, by rw [HDP.out]; go_num, by go_num, by omega, by omega, by omega, KC, rfl⟩
            ·obtain rfl : c4' = s3 := by
              have h := HC4.out
              rw [drop_cons hnm, sizeNs, if_pos (by omega)] at h
              exact h
             clear hnm HC4
             go_wp2_with fail
             go_roundg (go - 1)
             case measure => omega
             case rel => exact ⟨i + 1, _, rfl, by go_num, by omega, by omega, by omega, HAA, HBw⟩
           ·obtain rfl : c4' = s3 := by
             have h := HC4.out
             obtain rfl : k4 = O := by omega
             rw [← HO.out, List.drop_length, sizeNs] at h
             exact h
            clear HC4
            go_wp2_with fail
            go_roundg (go - 1)
            case measure => omega
            case rel => exact ⟨i + 1, _, rfl, by go_num, by omega, by omega, by omega, HAA, HBw⟩
        ·obtain rfl : c3 = s2 := by
          have h := HC3.out
          obtain rfl : k3 = N := by omega
          rw [← HN.out, List.drop_length, sizeNs] at h
          exact h
         have d7 := box_get X5.out HZ.out.2.2.2
         clear HC3
         go_wp2_with fail
         clear d7 d1
         obtain ⟨wn, rfl⟩ : ∃ wn : World, wn = wr := ⟨_, rfl⟩
         go_loopg [3, 8] O (fun gf u v wx => ∃ k c : Nat, u = .int .i64 (c : Int) ∧ v = .int .i64 (k : Int) ∧ k ≤ O ∧ O ≤ k + gf ∧ c ≤ 4194304 ∧ Hid (sizeNs c (outs.drop k) = s3) ∧ wx = wn)
         case atStart => exact ⟨0, _, rfl, rfl, by omega, by omega, by omega, hid (by rw [List.drop_zero]; exact HS3.out), rfl⟩
         case round =>
          obtain ⟨k4, c4', rfl, rfl, hk4, hgk4, hc4', HC4, rfl⟩ := hrel
          have d7 := box_get X5.out HZ.out.2.2.2
          by_cases hk4N : k4 < O
          ·obtain ⟨nm, hnm⟩ : ∃ nm, outs[k4]? = some nm := ⟨outs[k4]'(by rw [HO.out]; exact hk4N), List.getElem?_eq_getElem _⟩
           by_cases hc44 : c4' ≤ 400
           ·obtain ⟨b3, off3, cap3, e, _, hx2⟩ := Lies.at (IO.out.keep KR.out) (i := k4) (by rw [List.length_map, HO.out]; exact hk4N)
            injection e with e1 e2 e3
            subst e1
            clear e2 e3
            have y0 : wr.cell? ⟨b3, off3 + k4, none⟩ = some (.string nm) := by simpa using hx2 k4 (nmCells nm) (by rw [List.getElem?_map, hnm]; rfl) 0 _ rfl
            have hKc := HC4.out
            rw [drop_cons hnm, sizeNs, if_neg (by omega)] at hKc
            have hpw := wNs_get outs k4 nm hnm
            have hdp : ((nm.size : Int)) / 100 = ((nm.size / 100 : Nat) : Int) := by omega
            have hdq : nm.size / 100 ≤ nm.size := Nat.div_le_self _ _
            generalize nm.size / 100 = DP at *
            have HDP := hid hdp
            have KC := hid hKc
            clear hx2 hKc hnm hdp
            go_wp2_with fail
            go_roundg (gk - 1)
            case measure => omega
            case rel => exact ⟨k4 + 1, c4' + DP, by rw [HDP.out]; go_num, by go_num, by omega, by omega, by omega, KC, rfl⟩
           ·obtain rfl : c4' = s3 := by
             have h := HC4.out
             rw [drop_cons hnm, sizeNs, if_pos (by omega)] at h
             exact h
            clear hnm HC4
            go_wp2_with fail
            go_roundg (go - 1)
            case measure => omega
            case rel => exact ⟨i + 1, _, rfl, by go_num, by omega, by omega, by omega, HAA, HBw⟩
          ·obtain rfl : c4' = s3 := by
            have h := HC4.out
            obtain rfl : k4 = O := by omega
            rw [← HO.out, List.drop_length, sizeNs] at h
            exact h
           clear HC4
           go_wp2_with fail
           go_roundg (go - 1)
           case measure => omega
           case rel => exact ⟨i + 1, _, rfl, by go_num, by omega, by omega, by omega, HAA, HBw⟩
     ·obtain rfl : c = s1 := by
       have h := HCC.out
       obtain rfl : k = Q := by omega
       rw [← HQ.out, List.drop_length, sizePas] at h
       exact h
      have d1 := box_get X5.out HZ.out.2.1
      have HBw := hid (B4.out.trans (HBi.out.mono B4.out.size))
      have KR := KI
      go_wp2_with fail
      clear d1 d2
      clear HCC
      obtain ⟨wn, rfl⟩ : ∃ wn : World, wn = wr := ⟨_, rfl⟩
      go_loopg [3, 7] N (fun gf u v wx => ∃ k c : Nat, u = .int .i64 (c : Int) ∧ v = .int .i64 (k : Int) ∧ k ≤ N ∧ N ≤ k + gf ∧ c ≤ 4194304 ∧ Hid (sizeNs c (lives.drop k) = s2) ∧ wx = wn)
      case atStart => exact ⟨0, _, rfl, rfl, by omega, by omega, by omega, hid (by rw [List.drop_zero]; exact HS2.out), rfl⟩
      case round =>
       obtain ⟨k3, c3, rfl, rfl, hk3, hgk3, hc3, HC3, rfl⟩ := hrel
       have d1 := box_get X5.out HZ.out.2.1
       by_cases hk3N : k3 < N
       ·obtain ⟨nm, hnm⟩ : ∃ nm, lives[k3]? = some nm := ⟨lives[k3]'(by rw [HN.out]; exact hk3N), List.getElem?_eq_getElem _⟩
        by_cases hc34 : c3 ≤ 400
        ·obtain ⟨b3, off3, cap3, e, _, hx2⟩ := Lies.at (IL.out.keep KR.out) (i := k3) (by rw [List.length_map, HN.out]; exact hk3N)
         injection e with e1 e2 e3
         subst e1
         clear e2 e3
         have y0 : wr.cell? ⟨b3, off3 + k3, none⟩ = some (.string nm) := by simpa using hx2 k3 (nmCells nm) (by rw [List.getElem?_map, hnm]; rfl) 0 _ rfl
         have hKc := HC3.out
         rw [drop_cons hnm, sizeNs, if_neg (by omega)] at hKc
         have hpw := wNs_get lives k3 nm hnm
         have hdp : ((nm.size : Int)) / 100 = ((nm.size / 100 : Nat) : Int) := by omega
         have hdq : nm.size / 100 ≤ nm.size := Nat.div_le_self _ _
         generalize nm.size / 100 = DP at *
         have HDP := hid hdp
         have KC := hid hKc
         clear hx2 hKc hnm hdp
         go_wp2_with fail
         go_roundg (gk - 1)
         case measure => omega
         case rel => exact ⟨k3 + 1, c3 + DP, by rw [HDP.out]; go_num, by go_num, by omega, by omega, by omega, KC, rfl⟩
        ·obtain rfl : c3 = s2 := by
          have h := HC3.out
          rw [drop_cons hnm, sizeNs, if_pos (by omega)] at h
          exact h
         clear hnm
         have d7 := box_get X5.out HZ.out.2.2.2
         clear HC3
         go_wp2_with fail
         clear d7 d1
         obtain ⟨wn, rfl⟩ : ∃ wn : World, wn = wr := ⟨_, rfl⟩
         go_loopg [3, 8] O (fun gf u v wx => ∃ k c : Nat, u = .int .i64 (c : Int) ∧ v = .int .i64 (k : Int) ∧ k ≤ O ∧ O ≤ k + gf ∧ c ≤ 4194304 ∧ Hid (sizeNs c (outs.drop k) = s3) ∧ wx = wn)
         case atStart => exact ⟨0, _, rfl, rfl, by omega, by omega, by omega, hid (by rw [List.drop_zero]; exact HS3.out), rfl⟩
         case round =>
          obtain ⟨k4, c4', rfl, rfl, hk4, hgk4, hc4', HC4, rfl⟩ := hrel
          have d7 := box_get X5.out HZ.out.2.2.2
          by_cases hk4N : k4 < O
          ·obtain ⟨nm, hnm⟩ : ∃ nm, outs[k4]? = some nm := ⟨outs[k4]'(by rw [HO.out]; exact hk4N), List.getElem?_eq_getElem _⟩
           by_cases hc44 : c4' ≤ 400
           ·obtain ⟨b3, off3, cap3, e, _, hx2⟩ := Lies.at (IO.out.keep KR.out) (i := k4) (by rw [List.length_map, HO.out]; exact hk4N)
            injection e with e1 e2 e3
            subst e1
            clear e2 e3
            have y0 : wr.cell? ⟨b3, off3 + k4, none⟩ = some (.string nm) := by simpa using hx2 k4 (nmCells nm) (by rw [List.getElem?_map, hnm]; rfl) 0 _ rfl
            have hKc := HC4.out
            rw [drop_cons hnm, sizeNs, if_neg (by omega)] at hKc
            have hpw := wNs_get outs k4 nm hnm
            have hdp : ((nm.size : Int)) / 100 = ((nm.size / 100 : Nat) : Int) := by omega
            have hdq : nm.size / 100 ≤ nm.size := Nat.div_le_self _ _
            generalize nm.size / 100 = DP at *
            have HDP := hid hdp
            have KC := hid hKc
            clear hx2 hKc hnm hdp
            go_wp2_with fail
            go_roundg (gk - 1)
            case measure => omega
            case rel => exact ⟨k4 + 1, c4' + DP, by rw [HDP.out]; go_num, by go_num, by omega, by omega, by omega, KC, rfl⟩
           ·obtain rfl : c4' = s3 := by
             have h := HC4.out
             rw [drop_cons hnm, sizeNs, if_pos (by omega)] at h
             exact h
            clear hnm HC4
            go_wp2_with fail
            go_roundg (go - 1)
            case measure => omega
            case rel => exact ⟨i + 1, _, rfl, by go_num, by omega, by omega, by omega, HAA, HBw⟩
          ·obtain rfl : c4' = s3 := by
            have h := HC4.out
            obtain rfl : k4 = O := by omega
            rw [← HO.out, List.drop_length, sizeNs] at h
            exact h
           clear HC4
           go_wp2_with fail
           go_roundg (go - 1)
           case measure => omega
           case rel => exact ⟨i + 1, _, rfl, by go_num, by omega, by omega, by omega, HAA, HBw⟩
       ·obtain rfl : c3 = s2 := by
         have h := HC3.out
         obtain rfl : k3 = N := by omega
         rw [← HN.out, List.drop_length, sizeNs] at h
         exact h
        have d7 := box_get X5.out HZ.out.2.2.2
        clear HC3
        go_wp2_with fail
        clear d7 d1
        obtain ⟨wn, rfl⟩ : ∃ wn : World, wn = wr := ⟨_, rfl⟩
        go_loopg [3, 8] O (fun gf u v wx => ∃ k c : Nat, u = .int .i64 (c : Int) ∧ v = .int .i64 (k : Int) ∧ k ≤ O ∧ O ≤ k + gf ∧ c ≤ 4194304 ∧ Hid (sizeNs c (outs.drop k) = s3) ∧ wx = wn)
        case atStart => exact ⟨0, _, rfl, rfl, by omega, by omega, by omega, hid (by rw [List.drop_zero]; exact HS3.out), rfl⟩
        case round =>
         obtain ⟨k4, c4', rfl, rfl, hk4, hgk4, hc4', HC4, rfl⟩ := hrel
         have d7 := box_get X5.out HZ.out.2.2.2
         by_cases hk4N : k4 < O
         ·obtain ⟨nm, hnm⟩ : ∃ nm, outs[k4]? = some nm := ⟨outs[k4]'(by rw [HO.out]; exact hk4N), List.getElem?_eq_getElem _⟩
          by_cases hc44 : c4' ≤ 400
          ·obtain ⟨b3, off3, cap3, e, _, hx2⟩ := Lies.at (IO.out.keep KR.out) (i := k4) (by rw [List.length_map, HO.out]; exact hk4N)
           injection e with e1 e2 e3
           subst e1
           clear e2 e3
           have y0 : wr.cell? ⟨b3, off3 + k4, none⟩ = some (.string nm) := by simpa using hx2 k4 (nmCells nm) (by rw [List.getElem?_map, hnm]; rfl) 0 _ rfl
           have hKc := HC4.out
           rw [drop_cons hnm, sizeNs, if_neg (by omega)] at hKc
           have hpw := wNs_get outs k4 nm hnm
           have hdp : ((nm.size : Int)) / 100 = ((nm.size / 100 : Nat) : Int) := by omega
           have hdq : nm.size / 100 ≤ nm.size := Nat.div_le_self _ _
           generalize nm.size / 100 = DP at *
           have HDP := hid hdp
           have KC := hid hKc
           clear hx2 hKc hnm hdp
           go_wp2_with fail
           go_roundg (gk - 1)
           case measure => omega
           case rel => exact ⟨k4 + 1, c4' + DP, by rw [HDP.out]; go_num, by go_num, by omega, by omega, by omega, KC, rfl⟩
          ·obtain rfl : c4' = s3 := by
            have h := HC4.out
            rw [drop_cons hnm, sizeNs, if_pos (by omega)] at h
            exact h
           clear hnm HC4
           go_wp2_with fail
           go_roundg (go - 1)
           case measure => omega
           case rel => exact ⟨i + 1, _, rfl, by go_num, by omega, by omega, by omega, HAA, HBw⟩
         ·obtain rfl : c4' = s3 := by
           have h := HC4.out
           obtain rfl : k4 = O := by omega
           rw [← HO.out, List.drop_length, sizeNs] at h
           exact h
          clear HC4
          go_wp2_with fail
          go_roundg (go - 1)
          case measure => omega
          case rel => exact ⟨i + 1, _, rfl, by go_num, by omega, by omega, by omega, HAA, HBw⟩
   ·have K : Hid (a = R) := hid (by
     have h := HA.out
     obtain ⟨f, ht⟩ : ∃ f, l[i]? = some f := ⟨l[i]'(by rw [HL.out]; exact hlt), List.getElem?_eq_getElem _⟩
     rw [drop_cons ht, sizeFs, if_pos (by omega)] at h
     exact h)
    go_wp2_with fail
    go_ret
    exact ⟨ret_nat K.out, HB.out⟩
  ·have K : Hid (a = R) := hid (by
    have h := HA.out
    obtain rfl : i = L := by omega
    rw [← HL.out, List.drop_length, sizeFs] at h
    exact h)
   go_wp2_with fail
   go_ret
   exact ⟨ret_nat K.out, HB.out⟩
end Go.Proofs.YtemflcojebanlaaGreatDoor.TreeC
