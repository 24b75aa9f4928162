/- Contract of lienbookref04's Formed: why a function isn't formed. -/
import Derived.Test.YtemflcojebanlaaGreatDoorJ16
import Derived.Test.YtemflcojebanlaaGreatDoorJ14
import Derived.Test.YtemflcojebanlaaGreatDoorJ11
namespace Go.Proofs.YtemflcojebanlaaGreatDoor.NmC
open Go Go.RowKit Go.Lib Go.Sort LexP TreeP LexC TreeC NmP

theorem parsOk_drop (lives : List Nm) {ps : List Pa} {i : Nat} {p : Pa} (seen : List Nm) (h : ps[i]? = some p) : parsOk lives seen (ps.drop i) = ((cntN (bs p.name) seen == 0 && livesT lives p.type) && parsOk lives (seen ++ [bs p.name]) (ps.drop (i + 1))) := by rw [drop_cons h, parsOk]
theorem all_drop {α : Type} (g : α → Bool) {l : List α} {i : Nat} {x : α} (h : l[i]? = some x) : (l.drop i).all g = (g x && (l.drop (i + 1)).all g) := by rw [drop_cons h, List.all_cons]
theorem pa_open (p : Pa) : ∃ nm k life mt v kids, p = ⟨nm, .mk k life mt v kids⟩ := by obtain ⟨nm, ⟨k, life, mt, v, kids⟩⟩ := p; exact ⟨_, _, _, _, _, _, rfl⟩

set_option maxHeartbeats 16000000 in
set_option maxRecDepth 100000 in
theorem rFormed_any (f : TreeP.Fn) (ahead : List TreeP.Fn) (av : Value) (w : World) (hw : wF f ≤ 1048576) (hin : f.In w) (hah : Ahead w av ahead) :
  Calls Tryz.prog 19 #[f.val, av] w fun r w' => r = .returned (.int .i64 (formedN f ahead)) ∧ Below w.heap.size w w' := by
 obtain ⟨iL, ⟨iP, iPs⟩, iG, iO, ⟨iB, iBs⟩, iV⟩ := hin
 obtain ⟨name, livesV, lives, parsV, pars, ⟨gik, gl, gm, gv, gks⟩, outsV, outs, bodyV, body, ⟨vk, vn, vs, vm, vv, vks⟩⟩ := f
 simp only at iL iP iPs iG iO iB iBs iV
 unfold wF at hw
 simp only at hw
 have hP := wPas_len pars
 have hO := wNs_len outs
 have hLv := wNs_len lives
 have hLN : lives.length ≤ 1048576 := by omega
 have hF := findN_parsN (bs name) ahead 0 (by omega)
 have CF := hid (fun (W : World) (k : Keeps w W) => rFind_any name ahead av W hah.len (hah.lies.keep k))
 have CLg := hid (fun (W : World) (k : Keeps w W) => rLives_any _ (.mk gik gl gm gv gks) lives livesV W (Nat.le_refl _) (by omega) (Ty.In.keep k _ iG) hLN (iL.keep k))
 have CWg := hid (fun (W : World) (k : Keeps w W) => rWhole_any _ (.mk gik gl gm gv gks) W (Nat.le_refl _) (by omega) (Ty.In.keep k _ iG))
 have CLp := hid (fun (i : Nat) (p : Pa) (hp : pars[i]? = some p) (W : World) (k : Keeps w W) => by
  have := wPas_get pars i p hp
  unfold wPa at this
  exact rLives_any _ p.type lives livesV W (Nat.le_refl _) (by omega) (Ty.In.keep k _ (iPs p (List.mem_of_getElem? hp))) hLN (iL.keep k))
 have CWp := hid (fun (i : Nat) (p : Pa) (hp : pars[i]? = some p) (W : World) (k : Keeps w W) => by
  have := wPas_get pars i p hp
  unfold wPa at this
  exact rWhole_any _ p.type W (Nat.le_refl _) (by omega) (Ty.In.keep k _ (iPs p (List.mem_of_getElem? hp))))
 have CIl := hid (fun (s : ByteArray) (W : World) (k : Keeps w W) => rIn_any s lives livesV W hLN (iL.keep k))
 have CS := hid (fun (sc : List ByteArray) (sv : Value) (W : World) (k : Keeps w W) (hs : Names W sv sc) (hn : sc.length + wSs body ≤ 1048576) => rStmts_any _ body bodyV sc sv ahead av W (Nat.le_refl _) (by omega) (iB.keep k) (St.Ins.keep k _ iBs) hs hn (hah.keep k))
 have CV := hid (fun (sc : List ByteArray) (sv : Value) (W : World) (k : Keeps w W) (hs : Names W sv sc) => rExpr_any _ (.mk vk vn vs vm vv vks) sc sv ahead av W (Nat.le_refl _) (by omega) (Ex.In.keep k _ iV) hs (hah.keep k))
 simp only [Ty.val_mk] at CLg CWg
 simp only [Ex.val_mk] at CV
 obtain ⟨R, hR⟩ : ∃ R, formedN ⟨name, livesV, lives, parsV, pars, .mk gik gl gm gv gks, outsV, outs, bodyV, body, .mk vk vn vs vm vv vks⟩ ahead = R := ⟨_, rfl⟩
 rw [hR]
 unfold formedN headOk wholeF bodyOk at hR
 simp only at hR
 have hval : (TreeP.Fn.mk name livesV lives parsV pars (.mk gik gl gm gv gks) outsV outs bodyV body (.mk vk vn vs vm vv vks)).val = .agg #[.string name, livesV, parsV, .int .i64 gik, .string gl, .bool gm, gv, outsV, bodyV, .int .i64 vk, .int .i64 vn, .string vs, .bool vm, vv] := rfl
 rw [hval]
 clear hval
 have HS := hid hR
 have HLp := hid iP
 have HLl := hid iL
 have HLo := hid iO
 obtain ⟨pp, pcap, epv, _, _⟩ := id iP
 obtain ⟨lp, lcap, elv, _, _⟩ := id iL
 obtain ⟨op, ocap, eov, _, _⟩ := id iO
 rw [List.length_map] at epv elv eov
 have hwb : pars.length + wSs body ≤ 1048576 := by omega
 generalize hPL : pars.length = PL at *
 generalize hLL : lives.length = LL at *
 generalize hOL : outs.length = OL at *
 have EPL := hid hPL
 have ELL := hid hLL
 have EOL := hid hOL
 have HF := hid hF
 have X0 := hid (BoxAt.new w [.string name, livesV, parsV, .int .i64 gik, .string gl, .bool gm, gv, outsV, bodyV, .int .i64 vk, .int .i64 vn, .string vs, .bool vm, vv] 42)
 have B0 := hid (show Below w.heap.size w (w.alloc (.cells #[.string name, livesV, parsV, .int .i64 gik, .string gl, .bool gm, gv, outsV, bodyV, .int .i64 vk, .int .i64 vn, .string vs, .bool vm, vv] 42 (0, 0))) from (Below.refl _ _).alloc (Nat.le_refl _) _)
 have C1 := hid (CF.out _ (Keeps.of_below B0.out))
 have C2 := hid (CLg.out _ (Keeps.of_below B0.out))
 clear CF CLg hR iP iL iO iB iBs iG iV iPs hah hF hPL hLL hOL
 subst epv elv eov
 obtain ⟨A0, hA0⟩ : ∃ A0, ((parsN (bs name) ahead).isNone && livesT (lives.map bs) (.mk gik gl gm gv gks)) = A0 := ⟨_, rfl⟩
 rw [hA0] at HS
 cases hnone : (parsN (bs name) ahead).isNone
 case' false =>
  rw [hnone] at hA0
  have hA0' : A0 = false := by rw [← hA0]; rfl
  obtain ⟨j, hj⟩ : ∃ j : Nat, findN (bs name) ahead 0 = (j : Int) := by
   rcases HF.out with ⟨_, h2⟩ | ⟨j, f, h1, _⟩
   ·rw [h2] at hnone; cases hnone
   ·exact ⟨j, by rw [h1, Int.zero_add]⟩
  rw [hj] at C1
  have HA0 := hid hA0'
  clear hA0 hA0' hj hnone C2 HF
  go_enter Tryz.func19, Tryz.ntmps19
  go_wp2_with fail
  refine C1.out.mono ?_
  rintro e W1 ⟨rfl, rfl⟩
  generalize w.alloc _ = W1 at *
  have H1 := hid B0.out
  have X1 := hid X0.out
  clear C1 B0 X0
 case' true =>
  rw [hnone, Bool.true_and] at hA0
  rw [hA0] at C2
  have hj : findN (bs name) ahead 0 = -1 := by
   rcases HF.out with ⟨h1, _⟩ | ⟨j, f, _, _, h2⟩
   ·exact h1
   ·rw [h2] at hnone; cases hnone
  rw [hj] at C1
  have HA0 : Hid (A0 = A0) := hid rfl
  clear hA0 hj hnone HF
  go_enter Tryz.func19, Tryz.ntmps19
  go_wp2_with fail
  refine C1.out.mono ?_
  rintro e W1 ⟨rfl, rfl⟩
  generalize w.alloc _ = W0 at *
  have d1 := box_get X0.out (j := 1) rfl
  have d3 := box_get X0.out (j := 3) rfl
  have d4 := box_get X0.out (j := 4) rfl
  have d5 := box_get X0.out (j := 5) rfl
  have d6 := box_get X0.out (j := 6) rfl
  go_wp2_with fail
  refine C2.out.mono ?_
  rintro e W1 ⟨rfl, hb1⟩
  have H1 := hid (B0.out.trans (hb1.mono B0.out.size))
  have X1 := hid (X0.out.later hb1)
  clear d1 d3 d4 d5 d6 hb1 C1 C2 B0 X0
 all_goals (
  have d3 := box_get X1.out (j := 3) rfl
  have d4 := box_get X1.out (j := 4) rfl
  have d5 := box_get X1.out (j := 5) rfl
  have d6 := box_get X1.out (j := 6) rfl
  have C3 := hid (CWg.out W1 (Keeps.of_below H1.out))
  clear CWg
  obtain ⟨A1, hA1⟩ : ∃ A1, wholeT (.mk gik gl gm gv gks) = A1 := ⟨_, rfl⟩
  rw [hA1] at HS C3
  clear hA1
  go_wp2_with fail
  refine C3.out.mono ?_
  rintro e W2 ⟨rfl, hb2⟩
  have H2 := hid (H1.out.trans (hb2.mono H1.out.size))
  have X2 := hid (X1.out.later hb2)
  clear d3 d4 d5 d6 hb2 C3 H1 X1
  have HO0 := hid (own_nil W2 (w.heap.size + 1))
  have hsz2 : w.heap.size + 1 ≤ W2.heap.size := by have := X2.out.lt; omega
  have P0 := hid (Below.refl (w.heap.size + 1) W2)
  go_wp2_with fail
  go_loopg [5, 6, 7, 8] PL (fun gf u5 u6 u7 u8 wx => ∃ (i : Nat) (b1 b2 : Bool), u6 = .bool b1 ∧ u7 = .bool b2 ∧ u8 = .int .i64 (i : Int) ∧ i ≤ PL ∧ PL ≤ i + gf ∧ Hid (OwnN wx (w.heap.size + 1) u5 ((pars.take i).map Pa.name)) ∧ Hid ((A0 && parsOk (lives.map bs) [] pars) = (b1 && parsOk (lives.map bs) (((pars.take i).map Pa.name).map bs) (pars.drop i))) ∧ Hid ((A1 && pars.all (fun p => wholeT p.type)) = (b2 && (pars.drop i).all (fun p => wholeT p.type))) ∧ Hid (Below (w.heap.size + 1) W2 wx))
  case atStart => exact ⟨0, _, _, rfl, rfl, rfl, by omega, by omega, HO0, hid (by first | (rw [HA0.out]; simp; done) | simp), hid (by simp), P0⟩
  case round =>
   obtain ⟨i, b1, b2, rfl, rfl, rfl, hi, hg, HO, HA, HWb, HP⟩ := hrel
   clear HO0 P0
   have HB := hid (H2.out.trans (HP.out.mono (Nat.le_succ _)))
   have X3 : Hid (BoxAt wr w.heap.size [.string name, .slice lp LL lcap, .slice pp PL pcap, .int .i64 gik, .string gl, .bool gm, gv, .slice op OL ocap, bodyV, .int .i64 vk, .int .i64 vn, .string vs, .bool vm, vv]) := hid fun j u h => (HP.out.cell (p := ⟨w.heap.size, j, none⟩) (Nat.lt_succ_self _)).trans (X2.out j u h)
   have hszr : w.heap.size + 1 ≤ wr.heap.size := Nat.le_trans hsz2 HP.out.size
   by_cases hlt : i < PL
   ·obtain ⟨x, hx0⟩ : ∃ x, pars[i]? = some x := ⟨pars[i]'(by rw [EPL.out]; exact hlt), List.getElem?_eq_getElem _⟩
    obtain ⟨b, off, cap', e, _, hx⟩ := Lies.at (HLp.out.keep (Keeps.of_below HB.out)) (i := i) (by rw [List.length_map, EPL.out]; exact hlt)
    injection e with e1 e2 e3
    subst e1
    clear e2 e3
    have hx' := hx i _ (by rw [List.getElem?_map, hx0]; rfl)
    have hpd := parsOk_drop (lives.map bs) (((pars.take i).map Pa.name).map bs) hx0
    have hwd := all_drop (fun p : Pa => wholeT p.type) hx0
    have htk : (pars.take (i + 1)).map Pa.name = (pars.take i).map Pa.name ++ [x.name] := by rw [List.take_add_one, hx0, List.map_append]; rfl
    have hnl : ((pars.take i).map Pa.name).length = i := by rw [List.length_map, List.length_take, EPL.out]; omega
    rw [show (((pars.take i).map Pa.name).map bs ++ [bs x.name]) = ((pars.take (i + 1)).map Pa.name).map bs by rw [htk, List.map_append]; rfl] at hpd
    have hNm := HO.out.names (by rw [hnl]; omega)
    have hIn := fun (W : World) (k : Keeps wr W) => rIn_any x.name ((pars.take i).map Pa.name) u5 W (by rw [hnl]; omega) (hNm.lies.keep k)
    have hLp := fun (W : World) (k : Keeps wr W) => CLp.out i x hx0 W ((Keeps.of_below HB.out).trans k)
    have hWp := fun (W : World) (k : Keeps wr W) => CWp.out i x hx0 W ((Keeps.of_below HB.out).trans k)
    obtain ⟨nm, k, life, mt, v, kids, rfl⟩ := pa_open x
    simp only [Ty.val_mk] at hLp hWp hIn hpd hwd htk
    have y0 : wr.cell? ⟨b, off + i * 5, none⟩ = some (.string nm) := hx' 0 _ rfl
    have y1 : wr.cell? ⟨b, off + i * 5 + 1, none⟩ = some (.int .i64 k) := hx' 1 _ rfl
    have y2 : wr.cell? ⟨b, off + i * 5 + 1 + 1, none⟩ = some (.string life) := hx' 2 _ rfl
    have y3 : wr.cell? ⟨b, off + i * 5 + 1 + 2, none⟩ = some (.bool mt) := (by have := hx' 3 _ rfl; rwa [show off + i * 5 + 3 = off + i * 5 + 1 + 2 from rfl] at this)
    have y4 : wr.cell? ⟨b, off + i * 5 + 1 + 3, none⟩ = some v := (by have := hx' 4 _ rfl; rwa [show off + i * 5 + 4 = off + i * 5 + 1 + 3 from rfl] at this)
    have x2 := box_get X3.out (j := 2) rfl
    have x1 := box_get X3.out (j := 1) rfl
    have i1 : (i : Int) < (PL : Int) := by omega
    have i0 : (0 : Int) ≤ (i : Int) := by omega
    generalize cntN (bs nm) (((pars.take i).map Pa.name).map bs) = cn at *
    obtain ⟨q1, hq1⟩ : ∃ q, livesT (lives.map bs) (.mk k life mt v kids) = q := ⟨_, rfl⟩
    obtain ⟨q2, hq2⟩ : ∃ q, wholeT (.mk k life mt v kids) = q := ⟨_, rfl⟩
    rw [hq1] at hLp hpd
    rw [hq2] at hWp hwd
    have HPD := hid hpd
    have HWD := hid hwd
    have HTK := hid htk
    have HNM := hid hNm
    have CI := hid (fun d os => Calls.regrown_of ((hIn (grow (redrawn wr d) os) (Keeps.of_below (below_regrown wr d os))).mono fun e w' ⟨h1, h2⟩ => ⟨h1, below_of_eq h2⟩))
    have CL := hid (fun d os => Calls.regrown_of (hLp (grow (redrawn wr d) os) (Keeps.of_below (below_regrown wr d os))))
    have CW := hid hWp
    have HY := hid (And.intro y0 (And.intro y1 (And.intro y2 (And.intro y3 y4))))
    have HXX := hid (And.intro x1 x2)
    clear hx hx' hx0 hpd hwd htk hnl hNm hIn hLp hWp hq1 hq2 y0 y1 y2 y3 y4 x1
    go_wp2_with fail
    clear x2
    go_cut [6] (fun u wx => ∃ q : Bool, u = .bool q ∧ Hid (q = (b1 && (cn == 0 && q1))) ∧ Hid (Below wr.heap.size wr wx))
    case first =>
     have k0 := cell_regrown HY.out.1
     have k1 := cell_regrown HY.out.2.1
     have k2 := cell_regrown HY.out.2.2.1
     have k3 := cell_regrown HY.out.2.2.2.1
     have k4 := cell_regrown HY.out.2.2.2.2
     have j1 := cell_regrown HXX.out.1
     have j2 := cell_regrown HXX.out.2
     clear HPD HWD HTK HNM CW HY HXX HA HWb HO X3 HS CLp CWp CIl CS CV
     cases b1 with
     | false =>
      refine wp_region_quiet_below (by kernel_rfl) (by kernel_rfl) ?_
      repeat (go_big_quiet_step (first | (with_reducible exact CI.out _ _) | (with_reducible exact CL.out _ _)))
      refine wpQuiet_nil ?_
      intro _ hw'
      obtain ⟨⟨dq, osq⟩, hw''⟩ := hw'
      subst hw''
      have B3 := hid (below_regrown wr dq osq)
      go_wp2_with fail
      go_meet
      exact ⟨false, rfl, hid rfl, B3⟩
     | true =>
      by_cases h0 : cn = 0
      ·subst h0
       refine wp_region_quiet_below (by kernel_rfl) (by kernel_rfl) ?_
       repeat (go_big_quiet_step (first | (with_reducible exact CI.out _ _) | (with_reducible exact CL.out _ _)))
       refine wpQuiet_nil ?_
       intro _ hw'
       obtain ⟨⟨dq, osq⟩, hw''⟩ := hw'
       subst hw''
       have B3 := hid (below_regrown wr dq osq)
       go_wp2_with fail
       go_meet
       exact ⟨q1, rfl, hid rfl, B3⟩
      ·have z0 : ((cn : Int) == 0) = false := by simp; omega
       refine wp_region_quiet_below (by kernel_rfl) (by kernel_rfl) ?_
       repeat (go_big_quiet_step (first | (with_reducible exact CI.out _ _) | (with_reducible exact CL.out _ _)))
       refine wpQuiet_nil ?_
       intro _ hw'
       obtain ⟨⟨dq, osq⟩, hw''⟩ := hw'
       subst hw''
       have B3 := hid (below_regrown wr dq osq)
       go_wp2_with fail
       go_meet
       exact ⟨false, rfl, hid (by simp [h0]), B3⟩
    case rest =>
     obtain ⟨q, rfl, hq, hb3⟩ := hcut
     have HQ : Hid ((A0 && parsOk (lives.map bs) [] pars) = (q && parsOk (lives.map bs) (((pars.take (i + 1)).map Pa.name).map bs) (pars.drop (i + 1)))) := hid (by
      rw [HA.out, HPD.out, hq.out]; simp only [Bool.and_assoc])
     have HQ2 : Hid ((A1 && pars.all (fun p => wholeT p.type)) = ((b2 && q2) && (pars.drop (i + 1)).all (fun p => wholeT p.type))) := hid (by
      rw [HWb.out, HWD.out]; simp only [Bool.and_assoc])
     have j2 := box_get (X3.out.later hb3.out) (j := 2) rfl
     have k0 := later hb3.out HY.out.1
     have k1 := later hb3.out HY.out.2.1
     have k2 := later hb3.out HY.out.2.2.1
     have k3 := later hb3.out HY.out.2.2.2.1
     have k4 := later hb3.out HY.out.2.2.2.2
     clear HA HWb HPD HWD hq HNM CI CL
     cases b2
     case' false =>
      obtain ⟨W4, rfl⟩ : ∃ W4 : World, W4 = wc := ⟨wc, rfl⟩
      have HB4 := hid hb3.out
      clear hb3 CW
     case' true =>
      have CW1 := hid (CW.out wc (Keeps.of_below hb3.out))
      clear CW
      go_wp2_with fail
      refine CW1.out.mono ?_
      rintro e W4 ⟨rfl, hb4⟩
      have HB4 := hid (hb3.out.trans (hb4.mono hb3.out.size))
      replace j2 := later hb4 j2
      replace k0 := later hb4 k0
      clear k1 k2 k3 k4 hb4 hb3 CW1
     all_goals (
      have HO4 := hid ((HO.out.below HB4.out).below ((Below.refl W4.heap.size W4).alloc (Nat.le_refl _) (.cells #[.string nm] 9)))
      have HP4 := hid ((HP.out.trans (HB4.out.mono hszr)).alloc (Nat.le_trans hszr HB4.out.size) (.cells #[.string nm] 9))
      have HC4 := hid (box_cell W4 [.string nm] 9 0 _ rfl)
      have n1 : ((pars.take i).map Pa.name).length + [nm].length ≤ 4194304 := by rw [List.length_map, List.length_take, EPL.out, List.length_singleton]; omega
      have N1 := hid n1
      have B4 := hid (show w.heap.size + 1 ≤ (W4.alloc (.cells #[.string nm] 9)).heap.size by have := HB4.out.size; rw [World.size_alloc]; omega)
      clear n1
      go_wp2_with (at_builtin; go_loud (refine wpList_append_names rfl _ _ rfl (w.heap.size + 1) u5 _ ((pars.take i).map Pa.name) [nm] rfl rfl HO4.out (one_lies (Nat.le_refl _) HC4.out) N1.out B4.out ?_); intro va wa ha hga)
      have HO5 : Hid (OwnN wa (w.heap.size + 1) va ((pars.take (i + 1)).map Pa.name)) := hid (by rw [HTK.out]; exact ha)
      have HP5 : Hid (Below (w.heap.size + 1) W2 wa) := hid (HP4.out.grown hga B4.out (fun r hr => by
       obtain ⟨_, ⟨rfl, _⟩ | ⟨g', cap, cur, rfl, h3, _⟩⟩ := id HO4.out
       ·cases hr
       ·have : g' = r := by simpa [Value.ownBlock] using hr
        omega))
      clear ha hga HO4 HP4
      go_wp2_with fail
      go_roundg (gk - 1)
      case measure => omega
      case rel => exact ⟨i + 1, q, _, rfl, rfl, by go_num, by omega, by omega, HO5, HQ, HQ2, HP5⟩)
   ·obtain rfl : i = PL := by omega
    obtain ⟨WA, rfl⟩ : ∃ W : World, W = wr := ⟨wr, rfl⟩
    have HO1 : Hid (OwnN WA (w.heap.size + 1) u5 (pars.map Pa.name)) := hid (by have := HO.out; rw [← EPL.out, List.take_length] at this; exact this)
    have HA1 : Hid ((A0 && parsOk (lives.map bs) [] pars) = b1) := hid (by rw [HA.out, ← EPL.out, List.drop_length]; simp [parsOk])
    have HW1 : Hid ((A1 && pars.all (fun p => wholeT p.type)) = b2) := hid (by rw [HWb.out, ← EPL.out, List.drop_length]; simp)
    rw [HA1.out, HW1.out] at HS
    clear HO HA HWb HA1 HW1 CLp CWp hg
    have P0 := hid (Below.refl WA.heap.size WA)
    have x1 := box_get X3.out (j := 1) rfl
    have x2 := box_get X3.out (j := 2) rfl
    go_wp2_with fail
    clear x1 x2
    go_loopg [6, 9] LL (fun gf u6 u9 wx => ∃ (j : Nat) (q : Bool), u6 = .bool q ∧ u9 = .int .i64 (j : Int) ∧ j ≤ LL ∧ LL ≤ j + gf ∧ Hid ((b1 && (lives.map bs).all (fun s => cntN s (lives.map bs) == 1)) = (q && ((lives.map bs).drop j).all (fun s => cntN s (lives.map bs) == 1))) ∧ Hid (Below WA.heap.size WA wx))
    case atStart => exact ⟨0, _, rfl, rfl, by omega, by omega, hid (by simp), P0⟩
    case round =>
     obtain ⟨j, q, rfl, rfl, hj, hgj, HJ, HBj⟩ := hrel
     clear P0
     have X4 := hid (X3.out.later HBj.out)
     have HBw := hid (HB.out.trans (HBj.out.mono HB.out.size))
     by_cases hltj : j < LL
     ·
      obtain ⟨s, hs0⟩ : ∃ s, lives[j]? = some s := ⟨lives[j]'(by rw [ELL.out]; exact hltj), List.getElem?_eq_getElem _⟩
      obtain ⟨lb, loff, lc', e, _, hx⟩ := Lies.at (HLl.out.keep (Keeps.of_below HBw.out)) (i := j) (by rw [List.length_map, ELL.out]; exact hltj)
      injection e with e1 e2 e3
      subst e1
      clear e2 e3
      have y0 : wr.cell? ⟨lb, loff + j, none⟩ = some (.string s) := by have := hx j (nmCells s) (by rw [List.getElem?_map, hs0]; rfl) 0 _ rfl; simpa using this
      have hd := all_drop (fun s => cntN s (lives.map bs) == 1) (l := lives.map bs) (i := j) (x := bs s) (by rw [List.getElem?_map, hs0]; rfl)
      have CI := hid (fun d os => Calls.regrown_of ((CIl.out s (grow (redrawn wr d) os) ((Keeps.of_below HBw.out).trans (Keeps.of_below (below_regrown wr d os)))).mono fun e w' ⟨h1, h2⟩ => ⟨h1, below_of_eq h2⟩))
      generalize cntN (bs s) (lives.map bs) = cn at *
      have HD := hid hd
      have k0 := cell_regrown y0
      have x1 := box_get X4.out (j := 1) rfl
      have x7 := box_get X4.out (j := 1) rfl
      have k1 := cell_regrown x1
      have k7 := cell_regrown x7
      have i1 : (j : Int) < (LL : Int) := by omega
      have i0 : (0 : Int) ≤ (j : Int) := by omega
      clear hx hs0 hd y0 CIl CS CV HS
      go_wp2_with fail
      clear x1 x7
      cases q with
      | false =>
       refine wp_region_quiet_below (by kernel_rfl) (by kernel_rfl) ?_
       repeat (go_big_quiet_step (first | (with_reducible exact CI.out _ _)))
       refine wpQuiet_nil ?_
       intro _ hw'
       obtain ⟨⟨dq, osq⟩, hw''⟩ := hw'
       subst hw''
       have B3 := hid (HBj.out.trans ((below_regrown wr dq osq).mono HBj.out.size))
       clear HBj
       go_wp2_with fail
       go_roundg (gk - 1)
       case measure => omega
       case rel => exact ⟨j + 1, false, rfl, by go_num, by omega, by omega, hid (by rw [HJ.out, HD.out]; simp), B3⟩
      | true =>
       by_cases h0 : cn = 1
       ·subst h0
        refine wp_region_quiet_below (by kernel_rfl) (by kernel_rfl) ?_
        repeat (go_big_quiet_step (first | (with_reducible exact CI.out _ _)))
        refine wpQuiet_nil ?_
        intro _ hw'
        obtain ⟨⟨dq, osq⟩, hw''⟩ := hw'
        subst hw''
        have B3 := hid (HBj.out.trans ((below_regrown wr dq osq).mono HBj.out.size))
        clear HBj
        go_wp2_with fail
        go_roundg (gk - 1)
        case measure => omega
        case rel => exact ⟨j + 1, true, rfl, by go_num, by omega, by omega, hid (by rw [HJ.out, HD.out]; simp), B3⟩
       ·have z0 : ((cn : Int) == 1) = false := by simp; omega
        refine wp_region_quiet_below (by kernel_rfl) (by kernel_rfl) ?_
        repeat (go_big_quiet_step (first | (with_reducible exact CI.out _ _)))
        refine wpQuiet_nil ?_
        intro _ hw'
        obtain ⟨⟨dq, osq⟩, hw''⟩ := hw'
        subst hw''
        have B3 := hid (HBj.out.trans ((below_regrown wr dq osq).mono HBj.out.size))
        clear HBj
        go_wp2_with fail
        go_roundg (gk - 1)
        case measure => omega
        case rel => exact ⟨j + 1, false, rfl, by go_num, by omega, by omega, hid (by rw [HJ.out, HD.out]; simp [h0]), B3⟩
     ·
      obtain rfl : j = LL := by omega
      obtain ⟨WB, rfl⟩ : ∃ W : World, W = wr := ⟨wr, rfl⟩
      obtain ⟨b, rfl⟩ : ∃ b : Bool, b = q := ⟨q, rfl⟩
      have HJ1 : Hid ((b1 && (lives.map bs).all (fun s => cntN s (lives.map bs) == 1)) = b) := hid (by rw [HJ.out, ← ELL.out, ← List.length_map (f := bs), List.drop_length]; simp)
      rw [HJ1.out] at HS
      have x1 := box_get X4.out (j := 1) rfl
      have x7 := box_get X4.out (j := 7) rfl
      have P1 := hid (Below.refl WB.heap.size WB)
      clear HJ HJ1 hgj
      go_wp2_with fail
      clear x1 x7
      go_loopg [6, 10] OL (fun gf u6 u10 wx => ∃ (j : Nat) (q : Bool), u6 = .bool q ∧ u10 = .int .i64 (j : Int) ∧ j ≤ OL ∧ OL ≤ j + gf ∧ Hid ((b && (outs.map bs).all (fun s => decide (0 < cntN s (lives.map bs)))) = (q && ((outs.map bs).drop j).all (fun s => decide (0 < cntN s (lives.map bs))))) ∧ Hid (Below WB.heap.size WB wx))
      case atStart => exact ⟨0, _, rfl, rfl, by omega, by omega, hid (by simp), P1⟩
      case round =>
       clear hj
       obtain ⟨j, q, rfl, rfl, hj, hgj, HJ, HBk⟩ := hrel
       clear P1
       have X5 := hid (X4.out.later HBk.out)
       have HBw2 := hid (HBw.out.trans (HBk.out.mono HBw.out.size))
       by_cases hltj : j < OL
       ·
        obtain ⟨s, hs0⟩ : ∃ s, outs[j]? = some s := ⟨outs[j]'(by rw [EOL.out]; exact hltj), List.getElem?_eq_getElem _⟩
        obtain ⟨lb, loff, lc', e, _, hx⟩ := Lies.at (HLo.out.keep (Keeps.of_below HBw2.out)) (i := j) (by rw [List.length_map, EOL.out]; exact hltj)
        injection e with e1 e2 e3
        subst e1
        clear e2 e3
        have y0 : wr.cell? ⟨lb, loff + j, none⟩ = some (.string s) := by have := hx j (nmCells s) (by rw [List.getElem?_map, hs0]; rfl) 0 _ rfl; simpa using this
        have hd := all_drop (fun s => decide (0 < cntN s (lives.map bs))) (l := outs.map bs) (i := j) (x := bs s) (by rw [List.getElem?_map, hs0]; rfl)
        have CI := hid (fun d os => Calls.regrown_of ((CIl.out s (grow (redrawn wr d) os) ((Keeps.of_below HBw2.out).trans (Keeps.of_below (below_regrown wr d os)))).mono fun e w' ⟨h1, h2⟩ => ⟨h1, below_of_eq h2⟩))
        generalize cntN (bs s) (lives.map bs) = cn at *
        have HD := hid hd
        have k0 := cell_regrown y0
        have x1 := box_get X5.out (j := 1) rfl
        have x7 := box_get X5.out (j := 7) rfl
        have k1 := cell_regrown x1
        have k7 := cell_regrown x7
        have i1 : (j : Int) < (OL : Int) := by omega
        have i0 : (0 : Int) ≤ (j : Int) := by omega
        clear hx hs0 hd y0 CIl CS CV HS
        go_wp2_with fail
        clear x1 x7
        cases q with
        | false =>
         refine wp_region_quiet_below (by kernel_rfl) (by kernel_rfl) ?_
         repeat (go_big_quiet_step (first | (with_reducible exact CI.out _ _)))
         refine wpQuiet_nil ?_
         intro _ hw'
         obtain ⟨⟨dq, osq⟩, hw''⟩ := hw'
         subst hw''
         have B3 := hid (HBk.out.trans ((below_regrown wr dq osq).mono HBk.out.size))
         clear HBk
         go_wp2_with fail
         go_roundg (gk - 1)
         case measure => omega
         case rel => exact ⟨j + 1, false, rfl, by go_num, by omega, by omega, hid (by rw [HJ.out, HD.out]; simp), B3⟩
        | true =>
         by_cases h0 : 0 < cn
         ·skip
          refine wp_region_quiet_below (by kernel_rfl) (by kernel_rfl) ?_
          repeat (go_big_quiet_step (first | (with_reducible exact CI.out _ _)))
          refine wpQuiet_nil ?_
          intro _ hw'
          obtain ⟨⟨dq, osq⟩, hw''⟩ := hw'
          subst hw''
          have B3 := hid (HBk.out.trans ((below_regrown wr dq osq).mono HBk.out.size))
          clear HBk
          go_wp2_with fail
          go_roundg (gk - 1)
          case measure => omega
          case rel => exact ⟨j + 1, true, rfl, by go_num, by omega, by omega, hid (by rw [HJ.out, HD.out]; simp [h0]), B3⟩
         ·skip
          refine wp_region_quiet_below (by kernel_rfl) (by kernel_rfl) ?_
          repeat (go_big_quiet_step (first | (with_reducible exact CI.out _ _)))
          refine wpQuiet_nil ?_
          intro _ hw'
          obtain ⟨⟨dq, osq⟩, hw''⟩ := hw'
          subst hw''
          have B3 := hid (HBk.out.trans ((below_regrown wr dq osq).mono HBk.out.size))
          clear HBk
          go_wp2_with fail
          go_roundg (gk - 1)
          case measure => omega
          case rel => exact ⟨j + 1, false, rfl, by go_num, by omega, by omega, hid (by rw [HJ.out, HD.out]; simp [h0]), B3⟩
       ·
        obtain rfl : j = OL := by omega
        obtain ⟨WC, rfl⟩ : ∃ W : World, W = wr := ⟨wr, rfl⟩
        have HJ1 : Hid ((b && (outs.map bs).all (fun s => decide (0 < cntN s (lives.map bs)))) = q) := hid (by rw [HJ.out, ← EOL.out, ← List.length_map (f := bs), List.drop_length]; simp)
        rw [HJ1.out] at HS
        have x7 := box_get X5.out (j := 7) rfl
        have HN := hid ((((HO1.out.below HBj.out).below HBk.out)).names (by rw [List.length_map, EPL.out]; omega))
        have hpn : (pars.map Pa.name).map bs = parNames pars := by rw [List.map_map]; rfl
        have cs := CS.out (pars.map Pa.name) u5 WC (Keeps.of_below HBw2.out) HN.out (by rw [List.length_map, EPL.out]; omega)
        rw [hpn] at cs
        have HPN := hid hpn
        have CSS := hid cs
        clear HJ HJ1 hgj cs hpn CS CIl
        cases q with
        | false =>
         have K : R = 4 := by rw [← HS.out]; rfl
         subst K
         go_wp2_with fail
         go_ret
         exact ⟨rfl, HBw2.out⟩
        | true =>
         cases b2 with
         | false =>
          have K : R = 5 := by rw [← HS.out]; rfl
          subst K
          go_wp2_with fail
          go_ret
          exact ⟨rfl, HBw2.out⟩
         | true =>
          have HS2 : Hid ((if (stmtsN (parNames pars) ahead body && exprN (behind (parNames pars) body) ahead (.mk vk vn vs vm vv vks)) then (0 : Int) else 4) = R) := hid (by rw [← HS.out]; rfl)
          have x8 := box_get X5.out (j := 8) rfl
          clear HS
          obtain ⟨q1, hq1⟩ : ∃ q1, stmtsN (parNames pars) ahead body = q1 := ⟨_, rfl⟩
          rw [hq1] at CSS HS2
          clear hq1
          go_wp2_with fail
          refine CSS.out.mono ?_
          rintro e W6 ⟨v6, rfl, hb6, hn6⟩
          have HBw3 := hid (HBw2.out.trans (hb6.mono HBw2.out.size))
          have X6 := hid (X5.out.later hb6)
          clear x7 x8 CSS hb6
          cases q1 with
          | false =>
           have K : R = 4 := by rw [← HS2.out]; rfl
           subst K
           go_wp2_with fail
           go_ret
           exact ⟨rfl, HBw3.out⟩
          | true =>
           have cv := CV.out _ v6 W6 (Keeps.of_below HBw3.out) (hn6 rfl)
           rw [behindA_bs, HPN.out] at cv
           have CVV := hid cv
           obtain ⟨q2, hq2⟩ : ∃ q2, exprN (behind (parNames pars) body) ahead (.mk vk vn vs vm vv vks) = q2 := ⟨_, rfl⟩
           rw [hq2] at CVV HS2
           have d9 := box_get X6.out (j := 9) rfl
           have d10 := box_get X6.out (j := 10) rfl
           have d11 := box_get X6.out (j := 11) rfl
           have d12 := box_get X6.out (j := 12) rfl
           have d13 := box_get X6.out (j := 13) rfl
           clear cv hq2 CV hn6
           go_wp2_with fail
           refine CVV.out.mono ?_
           rintro e W7 ⟨rfl, hb7⟩
           have HBw4 := hid (HBw3.out.trans (hb7.mono HBw3.out.size))
           clear d9 d10 d11 d12 d13 CVV hb7
           cases q2 with
           | false =>
            have K : R = 4 := by rw [← HS2.out]; rfl
            subst K
            go_wp2_with fail
            go_ret
            exact ⟨rfl, HBw4.out⟩
           | true =>
            have K : R = 0 := by rw [← HS2.out]; rfl
            subst K
            go_wp2_with fail
            go_ret
            exact ⟨rfl, HBw4.out⟩)
end Go.Proofs.YtemflcojebanlaaGreatDoor.NmC
