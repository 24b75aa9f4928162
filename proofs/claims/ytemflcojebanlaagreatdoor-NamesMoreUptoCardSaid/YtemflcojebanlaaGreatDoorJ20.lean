/- Texts joined: NmM, NmN, NmO, NmP. -/
import Derived.Test.YtemflcojebanlaaGreatDoorJ18
import Derived.Test.YtemflcojebanlaaGreatDoorJ19
import Derived.Deep.RegionLaw
import Derived.Deep.RegionWith
/- Contracts of names.Whole, and of the closures that ask of a type's lives. -/
namespace Go.Proofs.YtemflcojebanlaaGreatDoor.NmC
open Go Go.RowKit Go.Lib Go.Sort Go.Maps LexP TreeP LexC TreeC NmP

set_option maxHeartbeats 1000000 in
theorem wholeF1_any (s : ByteArray) (i : Bool) (w : World) : Calls Tryz.prog 27 #[.string s, .bool i] w fun r w' => r = .returned (.bool (!i)) ∧ w = w' := by
 go_enter Tryz.func27, Tryz.ntmps27
 go_wp2_with fail
 go_ret
 exact ⟨rfl, rfl⟩
set_option maxHeartbeats 1000000 in
theorem whole_any (t : Ty) (w : World) (hw : wT t ≤ 1048576) (hin : t.In w) : Calls Tryz.prog 11 #[t.val] w fun r w' => r = .returned (.bool (wholeT t)) ∧ Below w.heap.size w w' := by
 have c1 := fun (W : World) (k : Keeps w W) => every_whole (fun _ i => !i) t W hw (Ty.In.keep k t hin) (fun s i W _ _ => wholeF1_any s i W)
 rw [everyT_whole] at c1
 obtain ⟨R, hR⟩ : ∃ R, wholeT t = R := ⟨_, rfl⟩
 rw [hR] at c1 ⊢
 obtain ⟨tk, tl, tm, tv, tks⟩ := t
 simp only [Ty.val_mk] at c1 ⊢
 have hb0 : Below w.heap.size w (w.alloc (.cells #[.int .i64 tk, .string tl, .bool tm, tv] 34)) := (Below.refl _ _).alloc (Nat.le_refl _) _
 have hX0 : BoxAt (w.alloc (.cells #[.int .i64 tk, .string tl, .bool tm, tv] 34)) w.heap.size [.int .i64 tk, .string tl, .bool tm, tv] := BoxAt.new w _ _
 have d0 := box_get hX0 (j := 0) rfl
 have d1 := box_get hX0 (j := 1) rfl
 have d2 := box_get hX0 (j := 2) rfl
 have d3 := box_get hX0 (j := 3) rfl
 have C1 := hid (c1 _ (Keeps.of_below hb0))
 clear c1 hX0 hR
 go_enter Tryz.func11, Tryz.ntmps11
 go_wp2_with fail
 refine C1.out.mono ?_
 rintro e W1 ⟨rfl, hb1⟩
 go_wp2_with fail
 go_ret
 exact ⟨rfl, hb0.trans (hb1.mono hb0.size)⟩
/-- a box holds the map that holds these lives -/
def LivesAt (w : World) (lb : Nat) (lives : List Nm) : Prop := ∃ bm, w.cell? ⟨lb, 0, none⟩ = some (.map (some bm)) ∧ VarsAt w bm lives
theorem LivesAt.below {w w' : World} {lb : Nat} {l : List Nm} (h : LivesAt w lb l) (hb : Below w.heap.size w w') : LivesAt w' lb l := by
 obtain ⟨bm, h1, h2⟩ := h
 exact ⟨bm, later hb h1, h2.below hb⟩
set_option maxHeartbeats 1000000 in
theorem livesF1_any (s : ByteArray) (i : Bool) (lb : Nat) (lives : List Nm) (w : World) (hs : s.size ≤ 1048576) (h : LivesAt w lb lives) :
  Calls Tryz.prog 76 #[.string s, .bool i, .pointer (some ⟨lb, 0, none⟩)] w fun r w' => r = .returned (.bool (lives.contains (bs s))) ∧ w = w' := by
 obtain ⟨bm, h1, h2⟩ := h
 have hl := vars_look h2 hs
 generalize lives.contains (bs s) = q at *
 clear h2
 go_enter Tryz.func76, Tryz.ntmps76
 go_wp2_with fail
 go_ret
 exact ⟨rfl, rfl⟩
set_option maxHeartbeats 1000000 in
theorem livesF2_any (t : Ty) (kb lb : Nat) (lives : List Nm) (w : World) (hw : wT t ≤ 1048576) (hin : t.In w) (hk : w.cell? ⟨kb, 0, none⟩ = some (.func (.func 76) #[] #[.pointer (some ⟨lb, 0, none⟩)])) (h : LivesAt w lb lives) :
  Calls Tryz.prog 77 #[t.val, .pointer (some ⟨kb, 0, none⟩)] w fun r w' => r = .returned (.bool (livesT lives t)) ∧ Below w.heap.size w w' := by
 have c1 := fun (W : World) (hb : Below w.heap.size w W) => every_lives lb (fun s _ => lives.contains s) t W hw (Ty.In.keep (Keeps.of_below hb) t hin) (fun s i W' hs hb' => livesF1_any s i lb lives W' hs (h.below (hb.trans (hb'.mono hb.size))))
 rw [everyT_lives] at c1
 obtain ⟨R, hR⟩ : ∃ R, livesT lives t = R := ⟨_, rfl⟩
 rw [hR] at c1 ⊢
 obtain ⟨tk, tl, tm, tv, tks⟩ := t
 simp only [Ty.val_mk] at c1 ⊢
 have hb0 : Below w.heap.size w (w.alloc (.cells #[.int .i64 tk, .string tl, .bool tm, tv] 34)) := (Below.refl _ _).alloc (Nat.le_refl _) _
 have hX0 : BoxAt (w.alloc (.cells #[.int .i64 tk, .string tl, .bool tm, tv] 34)) w.heap.size [.int .i64 tk, .string tl, .bool tm, tv] := BoxAt.new w _ _
 have d0 := box_get hX0 (j := 0) rfl
 have d1 := box_get hX0 (j := 1) rfl
 have d2 := box_get hX0 (j := 2) rfl
 have d3 := box_get hX0 (j := 3) rfl
 have dk := later hb0 hk
 have C1 := hid (c1 _ hb0)
 clear c1 hX0 hR h
 go_enter Tryz.func77, Tryz.ntmps77
 go_wp2_with fail
 refine C1.out.mono ?_
 rintro e W1 ⟨rfl, hb1⟩
 go_wp2_with fail
 go_ret
 exact ⟨rfl, hb0.trans (hb1.mono hb0.size)⟩
/- Contracts of names.everyType, by the two functions that it is handed, and of names.livesKnown. -/

theorem slice_of {w : World} {size : Nat} {v : Value} {xs : List (List Value)} (h : Lies w size v xs) : ∃ p n c, v = .slice p n c := by
 obtain ⟨p, c, rfl, _⟩ := h; exact ⟨_, _, _, rfl⟩
/-- a function, open -/
theorem fn_parts {w : World} {f : TreeP.Fn} (h : f.In w) : ∃ nm pl zl cl li pp zp cp lip gk gn gm pg zg cg gq po zo co lio pd zd cd lib ke ne te me pe ze ce qe,
  f = ⟨nm, .slice pl zl cl, li, .slice pp zp cp, lip, .mk gk gn gm (.slice pg zg cg) gq, .slice po zo co, lio, .slice pd zd cd, lib, .mk ke ne te me (.slice pe ze ce) qe⟩ := by
 obtain ⟨nm, lv, li, pv, lip, ⟨gk, gn, gm, gv, gq⟩, ov, lio, bv, lib, ⟨ke, ne, te, me, ev, qe⟩⟩ := f
 obtain ⟨h1, ⟨h2, _⟩, h3, h4, ⟨h5, _⟩, h6⟩ := h
 simp only at h1 h2 h3 h4 h5 h6
 rw [Ty.In] at h3
 rw [Ex.In] at h6
 obtain ⟨_, _, _, rfl⟩ := slice_of h1
 obtain ⟨_, _, _, rfl⟩ := slice_of h2
 obtain ⟨_, _, _, rfl⟩ := slice_of h3.1
 obtain ⟨_, _, _, rfl⟩ := slice_of h4
 obtain ⟨_, _, _, rfl⟩ := slice_of h5
 obtain ⟨_, _, _, rfl⟩ := slice_of h6.2.1
 exact ⟨_, _, _, _, _, _, _, _, _, _, _, _, _, _, _, _, _, _, _, _, _, _, _, _, _, _, _, _, _, _, _, _, rfl⟩

set_option maxHeartbeats 4000000 in
set_option maxRecDepth 100000 in
theorem everyType_whole  (g : Ty → Bool) (f : TreeP.Fn) (w : World) (hw : wF f ≤ 1048576) (hin : f.In w)
  (HO : ∀ (t : Ty) (W : World), wT t ≤ 1048576 → t.In W → Below w.heap.size w W → Calls Tryz.prog 11 #[t.val] W fun r w' => r = .returned (.bool (g t)) ∧ Below W.heap.size W w') :
  Calls Tryz.prog 43 #[f.val, .func (.func 11) #[] #[]] w fun r w' => r = .returned (.bool (f.pars.all (fun p => g p.type) && g f.gives)) ∧ Below w.heap.size w w' := by
 obtain ⟨nm, pl, zl, cl, li, pp, zp, cp, pars, gik, gn, gm, pg, zg, cg, gq, po, zo, co, lio, pd, zd, cd, lib, ke, ne, te, me, pe, ze, ce, qe, rfl⟩ := fn_parts hin
 obtain ⟨_, ⟨iP, iPs⟩, iG, _, _, _⟩ := hin
 simp only at iP iPs iG
 unfold wF at hw
 simp only at hw
 have hP := wPas_len pars
 have hLb : pars.length ≤ 1048576 := by omega
 obtain ⟨_, _, e, _⟩ := id iP
 rw [List.length_map] at e
 injection e with e1 e2 e3
 subst e2
 clear e1 e3
 generalize hL : pars.length = L at *
 have HL := hid hL
 have HX := hid iP
 obtain ⟨R, hR⟩ : ∃ R, (pars.all (fun p => g p.type) && g (.mk gik gn gm (.slice pg zg cg) gq)) = R := ⟨_, rfl⟩
 change Calls _ _ _ w fun r w' => r = .returned (.bool (pars.all (fun p => g p.type) && g (.mk gik gn gm (.slice pg zg cg) gq))) ∧ _
 rw [hR]
 have HS := hid hR
 have CP := hid (fun (i : Nat) (p : Pa) (hp : pars[i]? = some p) (W : World) (k : Below w.heap.size w W) => by
  have := wPas_get pars i p hp
  unfold wPa at this
  exact HO p.type W (by omega) (Ty.In.keep (Keeps.of_below k) _ (iPs p (List.mem_of_getElem? hp))) k)
 have CG := hid (fun (W : World) (k : Below w.heap.size w W) => HO (.mk gik gn gm (.slice pg zg cg) gq) W (by omega) (Ty.In.keep (Keeps.of_below k) _ iG) k)
 have HI := hid (fun (i : Nat) (p : Pa) (hp : pars[i]? = some p) => iPs p (List.mem_of_getElem? hp))
 simp only [Ty.val_mk] at CG
 rw [show (TreeP.Fn.mk nm (.slice pl zl cl) li (.slice pp L cp) pars (.mk gik gn gm (.slice pg zg cg) gq) (.slice po zo co) lio (.slice pd zd cd) lib (.mk ke ne te me (.slice pe ze ce) qe)).val = .agg #[.string nm, .slice pl zl cl, .slice pp L cp, .int .i64 gik, .string gn, .bool gm, .slice pg zg cg, .slice po zo co, .slice pd zd cd, .int .i64 ke, .int .i64 ne, .string te, .bool me, .slice pe ze ce] from rfl]
 have X0 := hid (BoxAt.new w [.string nm, .slice pl zl cl, .slice pp L cp, .int .i64 gik, .string gn, .bool gm, .slice pg zg cg, .slice po zo co, .slice pd zd cd, .int .i64 ke, .int .i64 ne, .string te, .bool me, .slice pe ze ce] 42)
 have hb0 : Below w.heap.size w (w.alloc (.cells #[.string nm, .slice pl zl cl, .slice pp L cp, .int .i64 gik, .string gn, .bool gm, .slice pg zg cg, .slice po zo co, .slice pd zd cd, .int .i64 ke, .int .i64 ne, .string te, .bool me, .slice pe ze ce] 42 (0, 0))) := (Below.refl _ _).alloc (Nat.le_refl _) _
 have B0 := hid hb0
 have d2 := box_get X0.out (j := 2) rfl
 clear hR HO iP iPs iG hL hb0 hP
 go_enter Tryz.func43, Tryz.ntmps43
 go_wp2_with fail
 clear d2
 generalize w.alloc _ = W1 at *
 go_loopg [10] L (fun gf v wx => ∃ i : Nat, v = .int .i64 (i : Int) ∧ i ≤ L ∧ L ≤ i + gf ∧ Hid (R = ((pars.drop i).all (fun p => g p.type) && g (.mk gik gn gm (.slice pg zg cg) gq))) ∧ Hid (Below W1.heap.size W1 wx))
 case atStart => exact ⟨0, rfl, by omega, by omega, hid (by rw [← HS.out]; rfl), hid (Below.refl _ _)⟩
 case round =>
  obtain ⟨i, rfl, hi, hg, HR, HB1⟩ := hrel
  have HB := hid (B0.out.trans (HB1.out.mono B0.out.size))
  by_cases hlt : i < L
  ·obtain ⟨x, hx0⟩ : ∃ x, pars[i]? = some x := ⟨pars[i]'(by rw [HL.out]; exact hlt), List.getElem?_eq_getElem _⟩
   obtain ⟨b, off, cap', e, _, hx⟩ := Lies.at (HX.out.keep (Keeps.of_below HB.out)) (i := i) (by rw [List.length_map, HL.out]; exact hlt)
   injection e with e1 e2 e3
   subst e1
   clear e2 e3
   have hx' := hx i _ (by rw [List.getElem?_map, hx0]; rfl)
   have hd := all_drop (fun p : Pa => g p.type) hx0
   have hc := CP.out i x hx0
   have hii := HI.out i x hx0
   obtain ⟨xn, k, life, mt, v, kids, rfl⟩ := pa_open x
   simp only [Ty.val_mk] at hc
   obtain ⟨kp, KL, kl, rfl⟩ := slice_of (show Lies w 4 v (kids.map Ty.cells) by unfold Pa.In at hii; rw [Ty.In] at hii; exact hii.1)
   have y0 : wr.cell? ⟨b, off + i * 5, none⟩ = some (.string xn) := hx' 0 _ rfl
   have y1 : wr.cell? ⟨b, off + i * 5 + 1, none⟩ = some (.int .i64 k) := hx' 1 _ rfl
   have y2 : wr.cell? ⟨b, off + i * 5 + 2, none⟩ = some (.string life) := hx' 2 _ rfl
   have y3 : wr.cell? ⟨b, off + i * 5 + 3, none⟩ = some (.bool mt) := hx' 3 _ rfl
   have y4 : wr.cell? ⟨b, off + i * 5 + 4, none⟩ = some (.slice kp KL kl) := hx' 4 _ rfl
   obtain ⟨q, hq⟩ : ∃ q, g (.mk k life mt (.slice kp KL kl) kids) = q := ⟨_, rfl⟩
   have hr := HR.out
   rw [hd] at hr
   simp only [hq] at hc hr
   have hb2 : Below wr.heap.size wr (wr.alloc (.cells #[.string xn, .int .i64 k, .string life, .bool mt, .slice kp KL kl] 52)) := (Below.refl _ _).alloc (Nat.le_refl _) _
   have C1 := hid (hc _ (HB.out.trans (hb2.mono HB.out.size)))
   have HB2 := hid (HB1.out.trans (hb2.mono HB1.out.size))
   have HB3 := hid (HB.out.trans (hb2.mono HB.out.size))
   have HQ := hid hr
   clear hx hx' hx0 hd hc hii hq hr hb2 HR
   go_wp2_with fail
   refine C1.out.mono ?_
   rintro e W2 ⟨rfl, hb2⟩
   cases q with
   | false =>
    have K : R = false := by rw [HQ.out]; rfl
    subst K
    go_wp2_with fail
    go_ret
    exact ⟨rfl, HB3.out.trans (hb2.mono HB3.out.size)⟩
   | true =>
    have K : Hid (R = ((pars.drop (i + 1)).all (fun p => g p.type) && g (.mk gik gn gm (.slice pg zg cg) gq))) := hid (by rw [HQ.out, Bool.true_and])
    have HB4 := hid (HB2.out.trans (hb2.mono HB2.out.size))
    clear HQ
    go_wp2_with fail
    go_roundg (gk - 1)
    case measure => omega
    case rel => exact ⟨i + 1, by go_num, by omega, by omega, K, HB4⟩
  ·obtain rfl : i = L := by omega
   have hr := HR.out
   rw [drop_len (by rw [HL.out]; exact Nat.le_refl _), List.all_nil, Bool.true_and] at hr
   have C1 := CG.out wr HB.out
   rw [← hr] at C1
   have C2 := hid C1
   have X1 := hid (X0.out.later HB1.out)
   have d3 := box_get X1.out (j := 3) rfl
   have d4 := box_get X1.out (j := 4) rfl
   have d5 := box_get X1.out (j := 5) rfl
   have d6 := box_get X1.out (j := 6) rfl
   clear C1 HR HS hr
   go_wp2_with fail
   refine C2.out.mono ?_
   rintro e W2 ⟨rfl, hb2⟩
   go_wp2_with fail
   go_ret
   exact ⟨rfl, HB.out.trans (hb2.mono HB.out.size)⟩
set_option maxHeartbeats 4000000 in
set_option maxRecDepth 100000 in
theorem everyType_lives (kb : Nat) (g : Ty → Bool) (f : TreeP.Fn) (w : World) (hw : wF f ≤ 1048576) (hin : f.In w)
  (HO : ∀ (t : Ty) (W : World), wT t ≤ 1048576 → t.In W → Below w.heap.size w W → Calls Tryz.prog 77 #[t.val, .pointer (some ⟨kb, 0, none⟩)] W fun r w' => r = .returned (.bool (g t)) ∧ Below W.heap.size W w') :
  Calls Tryz.prog 43 #[f.val, .func (.func 77) #[] #[.pointer (some ⟨kb, 0, none⟩)]] w fun r w' => r = .returned (.bool (f.pars.all (fun p => g p.type) && g f.gives)) ∧ Below w.heap.size w w' := by
 obtain ⟨nm, pl, zl, cl, li, pp, zp, cp, pars, gik, gn, gm, pg, zg, cg, gq, po, zo, co, lio, pd, zd, cd, lib, ke, ne, te, me, pe, ze, ce, qe, rfl⟩ := fn_parts hin
 obtain ⟨_, ⟨iP, iPs⟩, iG, _, _, _⟩ := hin
 simp only at iP iPs iG
 unfold wF at hw
 simp only at hw
 have hP := wPas_len pars
 have hLb : pars.length ≤ 1048576 := by omega
 obtain ⟨_, _, e, _⟩ := id iP
 rw [List.length_map] at e
 injection e with e1 e2 e3
 subst e2
 clear e1 e3
 generalize hL : pars.length = L at *
 have HL := hid hL
 have HX := hid iP
 obtain ⟨R, hR⟩ : ∃ R, (pars.all (fun p => g p.type) && g (.mk gik gn gm (.slice pg zg cg) gq)) = R := ⟨_, rfl⟩
 change Calls _ _ _ w fun r w' => r = .returned (.bool (pars.all (fun p => g p.type) && g (.mk gik gn gm (.slice pg zg cg) gq))) ∧ _
 rw [hR]
 have HS := hid hR
 have CP := hid (fun (i : Nat) (p : Pa) (hp : pars[i]? = some p) (W : World) (k : Below w.heap.size w W) => by
  have := wPas_get pars i p hp
  unfold wPa at this
  exact HO p.type W (by omega) (Ty.In.keep (Keeps.of_below k) _ (iPs p (List.mem_of_getElem? hp))) k)
 have CG := hid (fun (W : World) (k : Below w.heap.size w W) => HO (.mk gik gn gm (.slice pg zg cg) gq) W (by omega) (Ty.In.keep (Keeps.of_below k) _ iG) k)
 have HI := hid (fun (i : Nat) (p : Pa) (hp : pars[i]? = some p) => iPs p (List.mem_of_getElem? hp))
 simp only [Ty.val_mk] at CG
 rw [show (TreeP.Fn.mk nm (.slice pl zl cl) li (.slice pp L cp) pars (.mk gik gn gm (.slice pg zg cg) gq) (.slice po zo co) lio (.slice pd zd cd) lib (.mk ke ne te me (.slice pe ze ce) qe)).val = .agg #[.string nm, .slice pl zl cl, .slice pp L cp, .int .i64 gik, .string gn, .bool gm, .slice pg zg cg, .slice po zo co, .slice pd zd cd, .int .i64 ke, .int .i64 ne, .string te, .bool me, .slice pe ze ce] from rfl]
 have X0 := hid (BoxAt.new w [.string nm, .slice pl zl cl, .slice pp L cp, .int .i64 gik, .string gn, .bool gm, .slice pg zg cg, .slice po zo co, .slice pd zd cd, .int .i64 ke, .int .i64 ne, .string te, .bool me, .slice pe ze ce] 42)
 have hb0 : Below w.heap.size w (w.alloc (.cells #[.string nm, .slice pl zl cl, .slice pp L cp, .int .i64 gik, .string gn, .bool gm, .slice pg zg cg, .slice po zo co, .slice pd zd cd, .int .i64 ke, .int .i64 ne, .string te, .bool me, .slice pe ze ce] 42 (0, 0))) := (Below.refl _ _).alloc (Nat.le_refl _) _
 have B0 := hid hb0
 have d2 := box_get X0.out (j := 2) rfl
 clear hR HO iP iPs iG hL hb0 hP
 go_enter Tryz.func43, Tryz.ntmps43
 go_wp2_with fail
 clear d2
 generalize w.alloc _ = W1 at *
 go_loopg [10] L (fun gf v wx => ∃ i : Nat, v = .int .i64 (i : Int) ∧ i ≤ L ∧ L ≤ i + gf ∧ Hid (R = ((pars.drop i).all (fun p => g p.type) && g (.mk gik gn gm (.slice pg zg cg) gq))) ∧ Hid (Below W1.heap.size W1 wx))
 case atStart => exact ⟨0, rfl, by omega, by omega, hid (by rw [← HS.out]; rfl), hid (Below.refl _ _)⟩
 case round =>
  obtain ⟨i, rfl, hi, hg, HR, HB1⟩ := hrel
  have HB := hid (B0.out.trans (HB1.out.mono B0.out.size))
  by_cases hlt : i < L
  ·obtain ⟨x, hx0⟩ : ∃ x, pars[i]? = some x := ⟨pars[i]'(by rw [HL.out]; exact hlt), List.getElem?_eq_getElem _⟩
   obtain ⟨b, off, cap', e, _, hx⟩ := Lies.at (HX.out.keep (Keeps.of_below HB.out)) (i := i) (by rw [List.length_map, HL.out]; exact hlt)
   injection e with e1 e2 e3
   subst e1
   clear e2 e3
   have hx' := hx i _ (by rw [List.getElem?_map, hx0]; rfl)
   have hd := all_drop (fun p : Pa => g p.type) hx0
   have hc := CP.out i x hx0
   have hii := HI.out i x hx0
   obtain ⟨xn, k, life, mt, v, kids, rfl⟩ := pa_open x
   simp only [Ty.val_mk] at hc
   obtain ⟨kp, KL, kl, rfl⟩ := slice_of (show Lies w 4 v (kids.map Ty.cells) by unfold Pa.In at hii; rw [Ty.In] at hii; exact hii.1)
   have y0 : wr.cell? ⟨b, off + i * 5, none⟩ = some (.string xn) := hx' 0 _ rfl
   have y1 : wr.cell? ⟨b, off + i * 5 + 1, none⟩ = some (.int .i64 k) := hx' 1 _ rfl
   have y2 : wr.cell? ⟨b, off + i * 5 + 2, none⟩ = some (.string life) := hx' 2 _ rfl
   have y3 : wr.cell? ⟨b, off + i * 5 + 3, none⟩ = some (.bool mt) := hx' 3 _ rfl
   have y4 : wr.cell? ⟨b, off + i * 5 + 4, none⟩ = some (.slice kp KL kl) := hx' 4 _ rfl
   obtain ⟨q, hq⟩ : ∃ q, g (.mk k life mt (.slice kp KL kl) kids) = q := ⟨_, rfl⟩
   have hr := HR.out
   rw [hd] at hr
   simp only [hq] at hc hr
   have hb2 : Below wr.heap.size wr (wr.alloc (.cells #[.string xn, .int .i64 k, .string life, .bool mt, .slice kp KL kl] 52)) := (Below.refl _ _).alloc (Nat.le_refl _) _
   have C1 := hid (hc _ (HB.out.trans (hb2.mono HB.out.size)))
   have HB2 := hid (HB1.out.trans (hb2.mono HB1.out.size))
   have HB3 := hid (HB.out.trans (hb2.mono HB.out.size))
   have HQ := hid hr
   clear hx hx' hx0 hd hc hii hq hr hb2 HR
   go_wp2_with fail
   refine C1.out.mono ?_
   rintro e W2 ⟨rfl, hb2⟩
   cases q with
   | false =>
    have K : R = false := by rw [HQ.out]; rfl
    subst K
    go_wp2_with fail
    go_ret
    exact ⟨rfl, HB3.out.trans (hb2.mono HB3.out.size)⟩
   | true =>
    have K : Hid (R = ((pars.drop (i + 1)).all (fun p => g p.type) && g (.mk gik gn gm (.slice pg zg cg) gq))) := hid (by rw [HQ.out, Bool.true_and])
    have HB4 := hid (HB2.out.trans (hb2.mono HB2.out.size))
    clear HQ
    go_wp2_with fail
    go_roundg (gk - 1)
    case measure => omega
    case rel => exact ⟨i + 1, by go_num, by omega, by omega, K, HB4⟩
  ·obtain rfl : i = L := by omega
   have hr := HR.out
   rw [drop_len (by rw [HL.out]; exact Nat.le_refl _), List.all_nil, Bool.true_and] at hr
   have C1 := CG.out wr HB.out
   rw [← hr] at C1
   have C2 := hid C1
   have X1 := hid (X0.out.later HB1.out)
   have d3 := box_get X1.out (j := 3) rfl
   have d4 := box_get X1.out (j := 4) rfl
   have d5 := box_get X1.out (j := 5) rfl
   have d6 := box_get X1.out (j := 6) rfl
   clear C1 HR HS hr
   go_wp2_with fail
   refine C2.out.mono ?_
   rintro e W2 ⟨rfl, hb2⟩
   go_wp2_with fail
   go_ret
   exact ⟨rfl, HB.out.trans (hb2.mono HB.out.size)⟩
/- Contracts of names' scope: expr, let, within. -/

theorem ex_parts {w : World} {e : Ex} (h : e.In w) : ∃ k n s m p z c kids, e = .mk k n s m (.slice p z c) kids := by
 obtain ⟨k, n, s, m, v, kids⟩ := e
 rw [Ex.In] at h
 obtain ⟨_, _, _, rfl⟩ := slice_of h.2.1
 exact ⟨_, _, _, _, _, _, _, _, rfl⟩
set_option maxHeartbeats 4000000 in
set_option maxRecDepth 100000 in
theorem pExpr_any (scope : List Nm) (ahead : List TreeP.Fn) (ba bv : Nat) : ∀ (n : Nat) (t : Ex) (w : World), wE t ≤ n → n ≤ 1048576 → t.In w → AheadAt w ba ahead → VarsAt w bv scope →
  Calls Tryz.prog 45 #[.agg #[.map (some ba), .map (some bv)], t.val] w fun r w' => r = .returned (.bool (exprN scope ahead t)) ∧ Below w.heap.size w w' := by
 intro n
 induction n with
 | zero => intro t w h; obtain ⟨k, num, name, mt, v, kids⟩ := t; rw [wE] at h; omega
 | succ n ih =>
  intro t w hw hn hin ha hv
  obtain ⟨k, num, name, mt, v, kids⟩ := t
  rw [wE] at hw
  rw [Ex.In] at hin
  obtain ⟨_, hl, hk⟩ := hin
  have hlen := wEs_len kids
  obtain ⟨R, hR⟩ : ∃ R, exprN scope ahead (.mk k num name mt v kids) = R := ⟨_, rfl⟩
  rw [hR]
  rw [exprN] at hR
  simp only [Ex.val_mk]
  have hl' := hl
  obtain ⟨p, cap, rfl, hcap, hx⟩ := hl
  rw [List.length_map] at *
  generalize hL : kids.length = L at *
  have HS := hid hR
  have HL := hid hL
  have HK := hid hk
  have HX := hid hl'
  have HA := hid ha
  have HV := hid hv
  have hnm : name.size ≤ 1048576 := by omega
  clear hx hk hL hl' hR ha hv
  have hb0 : Below w.heap.size w ((w.alloc (.cells #[.map (some ba), .map (some bv)] 88)).alloc (.cells #[.int .i64 k, .int .i64 num, .string name, .bool mt, .slice p L cap] 40)) := ((Below.refl _ _).alloc (Nat.le_refl _) _).alloc (by simp) _
  have X0 : BoxAt (w.alloc (.cells #[.map (some ba), .map (some bv)] 88)) w.heap.size [.map (some ba), .map (some bv)] := BoxAt.new w _ _
  have X1 : BoxAt ((w.alloc (.cells #[.map (some ba), .map (some bv)] 88)).alloc (.cells #[.int .i64 k, .int .i64 num, .string name, .bool mt, .slice p L cap] 40)) (w.heap.size + 1) [.int .i64 k, .int .i64 num, .string name, .bool mt, .slice p L cap] := by
   have := BoxAt.new (w.alloc (.cells #[.map (some ba), .map (some bv)] 88)) [.int .i64 k, .int .i64 num, .string name, .bool mt, .slice p L cap] 40
   rw [World.size_alloc] at this
   exact this
  have X00 := hid (X0.later ((Below.refl _ _).alloc (Nat.le_refl _) (.cells #[.int .i64 k, .int .i64 num, .string name, .bool mt, .slice p L cap] 40)))
  have X11 := hid X1
  have B0 := hid hb0
  have d4 := box_get X1 (j := 4) rfl
  clear hb0 X0 X1
  go_enter Tryz.func45, Tryz.ntmps45
  go_wp2_with fail
  clear d4
  generalize World.alloc (World.alloc w _) _ = W1 at *
  go_loopg [12] L (fun gf v wx => ∃ i : Nat, v = .int .i64 (i : Int) ∧ i ≤ L ∧ L ≤ i + gf ∧ Hid (R = (exprNs scope ahead (kids.drop i) && ownE k (bs name) L scope ahead)) ∧ Hid (Below W1.heap.size W1 wx))
  case atStart => exact ⟨0, rfl, by omega, by omega, hid (by rw [← HS.out]; rfl), hid (Below.refl _ _)⟩
  case round =>
   obtain ⟨i, rfl, hi, hg, HR, HB1⟩ := hrel
   have HB := hid (B0.out.trans (HB1.out.mono B0.out.size))
   have Y0 := hid (X00.out.later HB1.out)
   have Y1 := hid (X11.out.later HB1.out)
   by_cases hlt : i < L
   ·obtain ⟨t', ht⟩ : ∃ t', kids[i]? = some t' := ⟨kids[i]'(by rw [HL.out]; exact hlt), List.getElem?_eq_getElem _⟩
    obtain ⟨b, off, cap', e, _, hx⟩ := Lies.at (HX.out.keep (Keeps.of_below HB.out)) (i := i) (by rw [List.length_map, HL.out]; exact hlt)
    injection e with e1 e2 e3
    subst e1
    clear e2 e3
    have hin' : t'.In wr := Ex.In.keep (Keeps.of_below HB.out) t' ((Ex.ins_iff w kids).1 HK.out t' (List.mem_of_getElem? ht))
    have hw' := wEs_get kids i t' ht
    have hx' := hx i t'.cells (by rw [List.getElem?_map, ht]; rfl)
    have hr := exprNs_drop scope ahead ht
    obtain ⟨k', num', name', mt', p', z', c', kids', rfl⟩ := ex_parts hin'
    have hb2 : Below wr.heap.size wr (wr.alloc (.cells #[.int .i64 k', .int .i64 num', .string name', .bool mt', .slice p' z' c'] 40)) := (Below.refl _ _).alloc (Nat.le_refl _) _
    have cI := ih _ (wr.alloc (.cells #[.int .i64 k', .int .i64 num', .string name', .bool mt', .slice p' z' c'] 40)) (by omega) (by omega) (Ex.In.keep (Keeps.of_below hb2) _ hin') (HA.out.below (HB.out.trans (hb2.mono HB.out.size))) (HV.out.below (HB.out.trans (hb2.mono HB.out.size)))
    unfold Ex.cells at hx'
    simp only [Ex.val_mk] at cI
    have x0 : wr.cell? ⟨b, off + i * 5, none⟩ = some (.int .i64 k') := hx' 0 _ rfl
    have x1 := hx' 1 _ rfl
    have x2 := hx' 2 _ rfl
    have x3 := hx' 3 _ rfl
    have x4 := hx' 4 _ rfl
    have e0 := later hb2 (box_get Y0.out (j := 0) rfl)
    have e1 := later hb2 (box_get Y0.out (j := 1) rfl)
    have HB2 := hid (HB1.out.trans (hb2.mono HB1.out.size))
    have HB3 := hid (HB.out.trans (hb2.mono HB.out.size))
    obtain ⟨c, hc⟩ : ∃ c, exprN scope ahead (.mk k' num' name' mt' (.slice p' z' c') kids') = c := ⟨_, rfl⟩
    rw [hc] at cI hr
    have CI := hid cI
    clear hx hx' ht hin' cI hc hb2
    cases c with
    | false =>
     have K : R = false := by rw [HR.out, hr]; rfl
     subst K
     clear hr
     go_wp2_with fail
     refine CI.out.mono ?_
     rintro e W2 ⟨rfl, hb2⟩
     go_wp2_with fail
     go_ret
     exact ⟨rfl, HB3.out.trans (hb2.mono HB3.out.size)⟩
    | true =>
     have K : Hid (R = (exprNs scope ahead (kids.drop (i + 1)) && ownE k (bs name) L scope ahead)) := hid (by rw [HR.out, hr]; rfl)
     clear hr
     go_wp2_with fail
     refine CI.out.mono ?_
     rintro e W2 ⟨rfl, hb2⟩
     have HB4 := hid (HB2.out.trans (hb2.mono HB2.out.size))
     go_wp2_with fail
     go_roundg (gk - 1)
     case measure => omega
     case rel => exact ⟨i + 1, by go_num, by omega, by omega, K, HB4⟩
   ·obtain rfl : i = L := by omega
    have hown : ownE k (bs name) i scope ahead = R := by rw [HR.out, ← HL.out, List.drop_length]; simp [exprNs]
    unfold ownE at hown
    have e0 := box_get Y0.out (j := 0) rfl
    have e1 := box_get Y0.out (j := 1) rfl
    have f0 := box_get Y1.out (j := 0) rfl
    have f2 := box_get Y1.out (j := 2) rfl
    have f4 := box_get Y1.out (j := 4) rfl
    have hlk := vars_look (HV.out.below HB.out) hnm
    obtain ⟨c, hc, hla⟩ := ahead_look (HA.out.below HB.out) hnm
    clear HR HS HX HK HA HV ih
    by_cases h2 : k = 2
    ·subst h2
     rw [if_pos rfl, cntN_pos] at hown
     rw [hown] at hlk
     clear hown hc hla
     go_wp2_with fail
     go_ret
     exact ⟨rfl, HB.out⟩
    ·rw [if_neg h2] at hown
     by_cases h9 : k = 9
     ·subst h9
      rw [if_pos rfl] at hown
      cases hp : parsN (bs name) ahead with
      | none =>
       rw [hp] at hown hla
       have K : R = false := by rw [← hown]; rfl
       subst K
       simp only [Option.isSome_none] at hla
       clear hown hc hlk
       go_wp2_with fail
       go_ret
       exact ⟨rfl, HB.out⟩
      | some m =>
       have hcm := hc m hp
       subst hcm
       rw [hp] at hown hla
       simp only [Option.isSome_some] at hla
       have K : R = ((m : Int) == (i : Int)) := by rw [← hown, Bool.eq_iff_iff]; simp; omega
       subst K
       clear hown hc hlk hp
       go_wp2_with fail
       go_ret
       exact ⟨rfl, HB.out⟩
     ·rw [if_neg h9] at hown
      subst hown
      clear hc hla hlk
      go_wp2_with fail
      go_ret
      exact ⟨rfl, HB.out⟩

theorem below_grown {w w' : World} (h : Below w.heap.size w w') (row : Option Nat) : w.grownBy w' row := ⟨h.os, h.tape, h.output, h.size, fun i hi _ => h.block i hi⟩
set_option maxHeartbeats 2000000 in
theorem let_any (scope : List Nm) (ba bv : Nat) (s : ByteArray) (w : World) (hs : s.size ≤ 1048576) (hl : scope.length ≤ 4194304) (hv : VarsAt w bv scope) :
  Calls Tryz.prog 106 #[.agg #[.map (some ba), .map (some bv)], .string s] w fun r w' => r = .returned (.bool (!scope.contains (bs s))) ∧ VarsAt w' bv (scope ++ [bs s]) ∧ w.grownBy w' (some bv) := by
 have hb0 : Below w.heap.size w (w.alloc (.cells #[.map (some ba), .map (some bv)] 88)) := (Below.refl _ _).alloc (Nat.le_refl _) _
 have X0 : BoxAt (w.alloc (.cells #[.map (some ba), .map (some bv)] 88)) w.heap.size [.map (some ba), .map (some bv)] := BoxAt.new w _ _
 have e1 := box_get X0 (j := 1) rfl
 have hlk := vars_look (hv.below hb0) hs
 have HV := hid (hv.below hb0)
 have B0 := hid (below_grown hb0 (some bv))
 clear hv X0 hb0
 generalize scope.contains (bs s) = q at *
 go_enter Tryz.func106, Tryz.ntmps106
 go_wp2_with (at_mapUpdate; refine wpList_put_vars rfl _ _ _ rfl bv scope s rfl rfl rfl HV.out hs hl ?_; intro w1 hs1 hg1)
 go_ret
 exact ⟨rfl, hs1, B0.out.andThen hg1 (fun j hj => .inr hj)⟩

theorem keyOf_string_inv {P : Program} {k : TypeId} (hk : P.underlying k = some .string) {v : Value} {kl : Lit} (h : keyOf P k v = some kl) : ∃ x : ByteArray, v = .string x ∧ kl = .string x.data.toList := by
 cases v <;> simp [keyOf, hk, mapKey] at h
 obtain ⟨_, rfl⟩ := h
 exact ⟨_, rfl, rfl⟩
set_option maxHeartbeats 4000000 in
set_option maxRecDepth 100000 in
theorem within_any (scope : List Nm) (ba bv : Nat) (w : World) (hl : scope.length ≤ 4194304) (hv : VarsAt w bv scope) :
  Calls Tryz.prog 107 #[.agg #[.map (some ba), .map (some bv)]] w fun r w' => ∃ b', r = .returned (.agg #[.map (some ba), .map (some b')]) ∧ VarsAt w' b' scope ∧ Below w.heap.size w w' ∧ w.heap.size ≤ b' := by
 have hmk := @run_makeMap Tryz.prog
 obtain ⟨D, hown, hhas, hat⟩ := hv
 have hb1 : Below w.heap.size w (w.alloc (.cells #[.map (some ba), .map (some bv)] 88)) := (Below.refl _ _).alloc (Nat.le_refl _) _
 have hb2 := hb1.alloc hb1.size (.cells #[.map none, .map none] 88)
 have hb3 := hb2.alloc hb2.size (.map #[] 0)
 have X0 : BoxAt (w.alloc (.cells #[.map (some ba), .map (some bv)] 88)) w.heap.size [.map (some ba), .map (some bv)] := BoxAt.new w _ _
 have X2 := (X0.later ((Below.refl _ _).alloc (Nat.le_refl _) (.cells #[.map none, .map none] 88))).later ((Below.refl _ _).alloc (Nat.le_refl _) (.map #[] 0))
 have hrb : ((w.alloc (.cells #[.map (some ba), .map (some bv)] 88)).alloc (.cells #[.map none, .map none] 88)).heap[w.heap.size + 1]? = some (.cells #[.map none, .map none] 88 (0, 0)) := by
  have := heap_alloc_new (w.alloc (.cells #[.map (some ba), .map (some bv)] 88)) (.cells #[.map none, .map none] 88)
  rw [World.size_alloc] at this
  exact this
 have hO3 := ((hown.alloc (.cells #[.map (some ba), .map (some bv)] 88)).alloc (.cells #[.map none, .map none] 88)).alloc (.map #[] 0)
 have hN3 := World.ownsMap_made ((w.alloc (.cells #[.map (some ba), .map (some bv)] 88)).alloc (.cells #[.map none, .map none] 88)) Tryz.prog 9 RB
 have hrb3 : (((w.alloc (.cells #[.map (some ba), .map (some bv)] 88)).alloc (.cells #[.map none, .map none] 88)).alloc (.map #[] 0)).heap[w.heap.size + 1]? = some (.cells #[.map none, .map none] 88 (0, 0)) := (heap_alloc_old _ _ (by rw [World.size_alloc, World.size_alloc]; omega)).trans hrb
 rw [World.size_alloc, World.size_alloc] at hN3
 have hsz3 : (((w.alloc (.cells #[.map (some ba), .map (some bv)] 88)).alloc (.cells #[.map none, .map none] 88)).alloc (.map #[] 0)).heap.size = w.heap.size + 3 := by rw [World.size_alloc, World.size_alloc, World.size_alloc]
 have e1 := box_get X2 (j := 1) rfl
 have HO3 := hid hO3
 have HN3 := hid hN3
 have X3 := hid X2
 have HRB := hid hrb3
 have B3 := hid hb3
 have hsd := hown.size_le
 have HAG := hid (agree_start D)
 have HDD := hid (And.intro hhas (And.intro hat (And.intro hown.isMap hown.lt)))
 clear hb1 hb2 hb3 X0 X2 hrb hO3 hN3 hrb3 hown hhas hat
 go_enter Tryz.func107, Tryz.ntmps107
 go_wp2_with (at_range; refine wpList_range_own _ rfl _ 81 rfl 9 4 KK Tryz.underlying81 RB bv scope.length D rfl HO3.out ?_; intro w0 hrg0 hg0 hs0)
 have P0 : Hid (Below (w.heap.size + 2) (((w.alloc (.cells #[.map (some ba), .map (some bv)] 88)).alloc (.cells #[.map none, .map none] 88)).alloc (.map #[] 0)) w0) := hid ⟨hg0.os, hg0.tape, hg0.output, hg0.size, fun i hi => hg0.block i (by rw [hsz3]; omega) (by simp)⟩
 have N0 := hid (HN3.out.kept hg0 (by simp))
 have R0 := hid hrg0
 have HSZ := hid hsz3
 clear e1 HO3 HN3 hrg0 hg0 hs0 hsz3
 generalize World.alloc (World.alloc (World.alloc w _) _) _ = W3 at *
 go_frame
 go_loopg [4] (Maps.size D) (fun gf u4 wx => ∃ (left : Lit → Bool) (cnt m : Nat) (Dout : DataW Unit), Hid (wx.ranges Tryz.prog 9 RB bv W3.heap.size scope.length D left cnt) ∧ Hid (wx.ownsMap Tryz.prog 9 RB (w.heap.size + 1 + 1) m Dout) ∧ Hid (Agree Dout D left) ∧ m + cnt ≤ scope.length ∧ cnt ≤ gf ∧ Hid (Below (w.heap.size + 2) W3 wx))
 case atStart => exact ⟨_, _, 0, _, R0, N0, HAG, by omega, Nat.le_refl _, P0⟩
 case round =>
  obtain ⟨left, cnt, m, Dout, HRG, HOW, HA, hm, hcg, HP⟩ := hrel
  clear R0 N0 HAG P0
  have HB := hid (B3.out.trans (HP.out.mono (by omega)))
  have XR : Hid (BoxAt wr w.heap.size [.map (some ba), .map (some bv)]) := hid fun j u h => (HP.out.cell (p := ⟨w.heap.size, j, none⟩) (show w.heap.size < w.heap.size + 2 by omega)).trans (X3.out j u h)
  have HRR : Hid (wr.heap[w.heap.size + 1]? = some (.cells #[.map none, .map none] 88 (0, 0))) := hid ((HP.out.block (w.heap.size + 1) (by omega)).trans HRB.out)
  have e0 := box_get XR.out (j := 0) rfl
  have ZA : Hid ((Tryz.prog.info? 88).map (·.size) = some (#[.map (some ba), .map (some (w.heap.size + 1 + 1))] : Array Value).size) := hid (show (Tryz.prog.info? 88).map (·.size) = some 2 by kernel_rfl)
  have ZO : Hid ((#[.map none, .map none] : Array Value).size = (#[.map (some ba), .map (some (w.heap.size + 1 + 1))] : Array Value).size) := hid rfl
  have Z1 : Hid ((#[.map (some ba), .map (some (w.heap.size + 1 + 1))] : Array Value).all (·.oneCell') = true) := hid (by simp [Value.oneCell'])
  have hne1 : some (w.heap.size + 1 + 1) ≠ some W3.heap.size := by rw [HSZ.out]; simp
  have hmx : m < maxLen ∧ bv < w.heap.size := ⟨by unfold maxLen; omega, HDD.out.2.2.2⟩
  go_wp2_with (first
   | (at_next; refine wpList_next_ranges _ rfl _ rfl 9 KK RB Value.string Value.bool (fun key kl h => by obtain ⟨x, rfl, _⟩ := keyOf_string_inv Tryz.underlying9 h; exact ⟨x, rfl⟩) (fun v y h => by obtain ⟨c, rfl, _⟩ := rb_inv h; exact ⟨c, rfl⟩) bv W3.heap.size scope.length D left cnt rfl HRG.out (fun hc0 hl0 => ?_) (fun x c kl y w1 cnt1 hkx hlk hRc hatc hrg1 hlt hg1 hs1 hen => ?_))
   | (at_mapUpdate; refine wpList_mapUpdate_own _ rfl _ _ _ 81 rfl 9 4 KK Tryz.underlying81 RB (w.heap.size + 1 + 1) m Dout rfl (HOW.out.kept hg1 hne1) hmx.1 _ _ kl rfl rfl hkx (.lit (.bool true)) [] (plainElem_bool Tryz.underlying4 true) ?_; intro w2 hown2 hg2)
   | (with_reducible refine wpList_store_row (o := ⟨none, _, _, _, _, _⟩) rfl _ _ _ rfl (w.heap.size + 1) #[.map (some ba), .map (some (w.heap.size + 1 + 1))] rfl rfl _ _ HRR.out ZA.out ZO.out Z1.out ?_))
  ·have hk0 : wr.grownBy (wr.setRow (w.heap.size + 1) #[.map (some ba), .map (some (w.heap.size + 1 + 1))]) (some (w.heap.size + 1)) := ⟨rfl, rfl, rfl, by simp, fun i _ hi => setRow_other _ _ _ _ (fun e => hi (by rw [e]))⟩
   refine bodyPost_ret (results_cell_row rfl _ _ (w.heap.size + 1) _ #[.map (some ba), .map (some (w.heap.size + 1 + 1))] _ _ rfl (setRow_heap _ _ _ _ _ _ HRR.out) Tryz.underlying88 rfl ZA.out) rfl ⟨w.heap.size + 1 + 1, rfl, ?_, ?_, by omega⟩
   ·have hA := HA.out
    refine ⟨Dout, ((HOW.out.kept hk0 (by simp)).mono (by omega)), fun s => ?_, fun s z hs => ?_⟩
    ·rw [hA.1, hl0, HDD.out.1]; simp
    ·have h1 : has Dout (ky s) = true := by rw [hA.1, hl0, HDD.out.1, hs]; rfl
     rw [hA.2 _ _ h1]
     exact HDD.out.2.1 s z hs
   ·exact HB.out.grown hk0 HB.out.size (fun r hr => by cases hr; omega)
  ·obtain ⟨q, hq, hkl⟩ := keyOf_string_inv Tryz.underlying9 hkx
   have hq' : x = q := by injection hq
   subst hq'
   have hhas := has_true_of_atKey hatc
   have hk1 : scope.contains (bs x) = true := by rw [← HDD.out.1, ← hhas, hkl]
   have hy : ∀ zd, D.atKey kl zd = .lit (.bool true) := fun zd => by rw [hkl]; exact HDD.out.2.1 (bs x) zd hk1
   have HRG2 := hid (hrg1.kept hg2 (fun e => by injection e with e; have := hmx.2; omega) (fun e => by injection e with e; rw [HSZ.out] at e; omega))
   have HOW2 := hid hown2
   have HA2 := hid (agree_step HA.out HOW.out.isMap (KK.key hkx) hy)
   have HP2 := hid (((HP.out.grown hg1 (by have := HP.out.size; rw [HSZ.out] at this; omega) (fun r hr => by injection hr with hr; rw [← hr, HSZ.out]; omega))).grown hg2 (by have := HP.out.size; rw [HSZ.out] at this; omega) (fun r hr => by injection hr with hr; omega))
   go_roundg (gk - 1)
   case measure => omega
   case rel => exact ⟨_, cnt1, m + 1, _, HRG2, HOW2, HA2, by omega, by omega, HP2⟩
/- Contracts of names' scope: stmt, stmts. -/

/-- what the program's stmts and stmt answer: all is as it was, but for the map of names, which knows more -/
def PoPost (w : World) (bv : Nat) (R : Bool) (sc : List Nm) (r : Ending) (w' : World) : Prop :=
 r = .returned (.bool R) ∧ w.grownBy w' (some bv) ∧ (R = true → VarsAt w' bv sc)
def StmtsOk (ahead : List TreeP.Fn) (n : Nat) : Prop := ∀ (l : List St) (lv : Value) (scope : List Nm) (ba bv : Nat) (w : World), wSs l ≤ n → Lies w 14 lv (l.map St.cells) → St.Ins w l → AheadAt w ba ahead → VarsAt w bv scope → ba ≠ bv → scope.length + wSs l ≤ 1048576 →
 Calls Tryz.prog 44 #[.agg #[.map (some ba), .map (some bv)], lv] w (PoPost w bv (stmtsP scope ahead l) (behind scope l))
theorem st_parts {w : World} {s : St} (h : s.In w) : ∃ k nm pk pn ps pm pp pz pc pks ek en es em ep ez ec eks tp tz tc thn lp lz lc els,
  s = .mk k nm (.mk pk pn ps pm (.slice pp pz pc) pks) (.mk ek en es em (.slice ep ez ec) eks) (.slice tp tz tc) thn (.slice lp lz lc) els := by
 obtain ⟨k, nm, p, e, tv, thn, ev, els⟩ := s
 rw [St.In] at h
 obtain ⟨h1, h2, h3, _, h5, _⟩ := h
 obtain ⟨_, _, _, _, _, _, _, _, rfl⟩ := ex_parts h1
 obtain ⟨_, _, _, _, _, _, _, _, rfl⟩ := ex_parts h2
 obtain ⟨_, _, _, rfl⟩ := slice_of h3
 obtain ⟨_, _, _, rfl⟩ := slice_of h5
 exact ⟨_, _, _, _, _, _, _, _, _, _, _, _, _, _, _, _, _, _, _, _, _, _, _, _, _, _, rfl⟩

set_option maxHeartbeats 8000000 in
set_option maxRecDepth 100000 in
theorem pStmt_any (ahead : List TreeP.Fn) (n : Nat) (hS : StmtsOk ahead n) (s : St) (scope : List Nm) (ba bv : Nat) (w : World) (hw : wS s ≤ n + 1) (hn : n ≤ 1048576) (hin : s.In w) (ha : AheadAt w ba ahead) (hv : VarsAt w bv scope) (_hne : ba ≠ bv) (hsc : scope.length + wS s ≤ 1048577) :
  Calls Tryz.prog 78 #[.agg #[.map (some ba), .map (some bv)], s.val] w (PoPost w bv (stmtP scope ahead s) (behindS scope (stK s) (bs (stN s)))) := by
 obtain ⟨k, nm, pk, pn, ps, pm, pp, pz, pc, pks, ek, en, es, em, ep, ez, ec, eks, tp, tz, tc, thn, lp, lz, lc, els, rfl⟩ := st_parts hin
 rw [St.In] at hin
 obtain ⟨hp, he, htl, hts, hel, hes⟩ := hin
 rw [wS] at hw hsc
 have hal := ha.lt
 have hvl := hv.lt
 have CE := hid (fun (W : World) (h : Below w.heap.size w W) => pExpr_any scope ahead ba bv _ (.mk ek en es em (.slice ep ez ec) eks) W (Nat.le_refl _) (by omega) (Ex.In.keep (Keeps.of_below h) _ he) (ha.below h) (hv.below h))
 have CP := hid (fun (W : World) (h : Below w.heap.size w W) => pExpr_any scope ahead ba bv _ (.mk pk pn ps pm (.slice pp pz pc) pks) W (Nat.le_refl _) (by omega) (Ex.In.keep (Keeps.of_below h) _ hp) (ha.below h) (hv.below h))
 have CT := hid (fun (b : Nat) (W : World) (h : Below w.heap.size w W) (hb : w.heap.size ≤ b) (h2 : VarsAt W b scope) => hS thn (.slice tp tz tc) scope ba b W (by omega) (htl.keep (Keeps.of_below h)) (St.Ins.keep (Keeps.of_below h) _ hts) (ha.below h) h2 (by omega) (by omega))
 have CL := hid (fun (b : Nat) (W : World) (h : Below w.heap.size w W) (hb : w.heap.size ≤ b) (h2 : VarsAt W b scope) => hS els (.slice lp lz lc) scope ba b W (by omega) (hel.keep (Keeps.of_below h)) (St.Ins.keep (Keeps.of_below h) _ hes) (ha.below h) h2 (by omega) (by omega))
 have CW := hid (fun (W : World) (h : Below w.heap.size w W) => within_any scope ba bv W (by omega) (hv.below h))
 have CN := hid (fun (W : World) (h : Below w.heap.size w W) => let_any scope ba bv nm W (by omega) (by omega) (hv.below h))
 have HV := hid hv
 simp only [Ex.val_mk] at CE CP
 obtain ⟨R, hR⟩ : ∃ R, stmtP scope ahead (.mk k nm (.mk pk pn ps pm (.slice pp pz pc) pks) (.mk ek en es em (.slice ep ez ec) eks) (.slice tp tz tc) thn (.slice lp lz lc) els) = R := ⟨_, rfl⟩
 rw [hR]
 rw [stmtP] at hR
 change Calls _ _ _ _ (PoPost w bv R (behindS scope k (bs nm)))
 generalize exprN scope ahead (.mk ek en es em (.slice ep ez ec) eks) = q3 at *
 generalize exprN scope ahead (.mk pk pn ps pm (.slice pp pz pc) pks) = q4 at *
 generalize stmtsP scope ahead thn = q1 at *
 generalize stmtsP scope ahead els = q2 at *
 have HS := hid hR
 rw [show (St.mk k nm (.mk pk pn ps pm (.slice pp pz pc) pks) (.mk ek en es em (.slice ep ez ec) eks) (.slice tp tz tc) thn (.slice lp lz lc) els).val = .agg #[.int .i64 k, .string nm, .int .i64 pk, .int .i64 pn, .string ps, .bool pm, .slice pp pz pc, .int .i64 ek, .int .i64 en, .string es, .bool em, .slice ep ez ec, .slice tp tz tc, .slice lp lz lc] from rfl]
 have X0 : BoxAt (w.alloc (.cells #[.map (some ba), .map (some bv)] 88)) w.heap.size [.map (some ba), .map (some bv)] := BoxAt.new w _ _
 have X1 := BoxAt.new (w.alloc (.cells #[.map (some ba), .map (some bv)] 88)) [.int .i64 k, .string nm, .int .i64 pk, .int .i64 pn, .string ps, .bool pm, .slice pp pz pc, .int .i64 ek, .int .i64 en, .string es, .bool em, .slice ep ez ec, .slice tp tz tc, .slice lp lz lc] 68
 rw [World.size_alloc] at X1
 have X00 := hid (X0.later ((Below.refl _ _).alloc (Nat.le_refl _) (.cells #[.int .i64 k, .string nm, .int .i64 pk, .int .i64 pn, .string ps, .bool pm, .slice pp pz pc, .int .i64 ek, .int .i64 en, .string es, .bool em, .slice ep ez ec, .slice tp tz tc, .slice lp lz lc] 68)))
 have X11 := hid X1
 have B0 := hid (show Below w.heap.size w ((w.alloc (.cells #[.map (some ba), .map (some bv)] 88)).alloc (.cells #[.int .i64 k, .string nm, .int .i64 pk, .int .i64 pn, .string ps, .bool pm, .slice pp pz pc, .int .i64 ek, .int .i64 en, .string es, .bool em, .slice ep ez ec, .slice tp tz tc, .slice lp lz lc] 68)) from ((Below.refl _ _).alloc (Nat.le_refl _) _).alloc (by simp) _)
 have d0 := box_get X00.out (j := 0) rfl
 have d1 := box_get X00.out (j := 1) rfl
 have d7 := box_get X11.out (j := 7) rfl
 have d8 := box_get X11.out (j := 8) rfl
 have d9 := box_get X11.out (j := 9) rfl
 have d10 := box_get X11.out (j := 10) rfl
 have d11 := box_get X11.out (j := 11) rfl
 have CE1 := hid (CE.out _ B0.out)
 clear hp he htl hts hel hes ha hv hR X0 X1 CE
 go_enter Tryz.func78, Tryz.ntmps78
 go_wp2_with fail
 refine CE1.out.mono ?_
 rintro e W2 ⟨rfl, hb2⟩
 have B2 := hid (B0.out.trans (hb2.mono B0.out.size))
 have Y0 := hid (X00.out.later hb2)
 have Y1 := hid (X11.out.later hb2)
 clear d0 d1 d7 d8 d9 d10 d11 CE1 hb2 B0 X00 X11
 cases q3 with
 | false =>
  have K : R = false := by rw [← HS.out]; rfl
  subst K
  go_wp2_with fail
  go_ret
  exact ⟨rfl, below_grown B2.out _, fun h => by cases h⟩
 | true =>
  have hr := HS.out
  rw [Bool.true_and] at hr
  have f0 := box_get Y1.out (j := 0) rfl
  have d0 := box_get Y0.out (j := 0) rfl
  have d1 := box_get Y0.out (j := 1) rfl
  by_cases k1 : k = 1
  ·subst k1
   rw [if_pos rfl] at hr
   have C1 := CN.out W2 B2.out
   rw [hr] at C1
   have CN1 := hid C1
   have f1 := box_get Y1.out (j := 1) rfl
   clear hr C1
   go_wp2_with fail
   refine CN1.out.mono ?_
   rintro e W3 ⟨rfl, hv3, hg3⟩
   go_wp2_with fail
   go_ret
   exact ⟨rfl, (below_grown B2.out _).andThen hg3 (fun j hj => .inr hj), fun _ => by unfold behindS; rw [if_pos rfl]; exact hv3⟩
  ·rw [if_neg k1] at hr
   have hbh : behindS scope k (bs nm) = scope := by unfold behindS; rw [if_neg k1]
   rw [hbh]
   by_cases k2 : k = 2
   ·subst k2
    rw [if_pos rfl] at hr
    subst hr
    have CP1 := hid (CP.out W2 B2.out)
    have f2 := box_get Y1.out (j := 2) rfl
    have f3 := box_get Y1.out (j := 3) rfl
    have f4 := box_get Y1.out (j := 4) rfl
    have f5 := box_get Y1.out (j := 5) rfl
    have f6 := box_get Y1.out (j := 6) rfl
    go_wp2_with fail
    refine CP1.out.mono ?_
    rintro e W3 ⟨rfl, hb3⟩
    have B3 := B2.out.trans (hb3.mono B2.out.size)
    go_wp2_with fail
    go_ret
    exact ⟨rfl, below_grown B3 _, fun _ => HV.out.below B3⟩
   ·rw [if_neg k2] at hr
    have f12 := box_get Y1.out (j := 12) rfl
    have f13 := box_get Y1.out (j := 13) rfl
    have HD2 := hid (B2.out.drew)
    have HC2 := hid ((Below.refl W2.heap.size W2).drew)
    have hle : w.heap.size ≤ W2.heap.size := B2.out.size
    have SK := hid (fun (W : World) (h : Below W2.heap.size W2 W) => And.intro (later h d0) (And.intro (later h d1) (And.intro (later h f12) (later h f13))))
    cases q1 with
    | false =>
     rw [Bool.false_and] at hr
     subst hr
     clear HS CL CP CN hbh q4
     go_wp2_with fail
     first | (go_region_with (first
      | (go_at_call 107; (with_reducible refine (CW.out _ HD2.out).mono ?_); rintro e W5 ⟨b5, rfl, hv5, hb5, hl5⟩; have HB5 := hid (HD2.out.trans (hb5.mono HD2.out.size)); have HC5 := hid (HC2.out.trans (hb5.mono HC2.out.size)); have HV5 := hid hv5; have hl5' : W2.heap.size ≤ b5 := hl5; have g12 := later HC5.out f12; clear hb5 hv5 hl5)
      | (go_at_call 44; (with_reducible refine (CT.out b5 _ HB5.out (Nat.le_trans hle hl5') HV5.out).mono ?_); rintro e W6 ⟨rfl, hg6, _⟩; have HB6 := hid (HB5.out.grown hg6 HB5.out.size (fun r hr => by injection hr with hr; omega)); clear hg6 g12))) | skip
     all_goals (
      go_wp2_with fail
      go_ret
      exact ⟨rfl, below_grown HB6.out _, fun h => by cases h⟩)
    | true =>
     rw [Bool.true_and] at hr
     subst hr
     clear HS CP CN hbh q4
     go_wp2_with fail
     go_region_held3 (fun w' => w'.cell? ⟨w.heap.size, 0, none⟩ = some (.map (some ba)) ∧ w'.cell? ⟨w.heap.size, 1, none⟩ = some (.map (some bv)) ∧ w'.cell? ⟨w.heap.size + 1, 12, none⟩ = some (.slice tp tz tc) ∧ w'.cell? ⟨w.heap.size + 1, 13, none⟩ = some (.slice lp lz lc))
      (first | exact SK.out _ HC8.out | exact SK.out _ HC7.out | exact SK.out _ HC6.out | exact SK.out _ HC5.out | exact SK.out _ HC2.out)
      (first
      | (go_at_call 107; (with_reducible refine (CW.out _ HD2.out).mono ?_); rintro e W5 ⟨b5, rfl, hv5, hb5, hl5⟩; have HB5 := hid (HD2.out.trans (hb5.mono HD2.out.size)); have HC5 := hid (HC2.out.trans (hb5.mono HC2.out.size)); have HV5 := hid hv5; have hl5' : W2.heap.size ≤ b5 := hl5; clear hb5 hv5 hl5)
      | (go_at_call 44; (with_reducible refine (CT.out b5 _ HB5.out (Nat.le_trans hle hl5') HV5.out).mono ?_); rintro e W6 ⟨rfl, hg6, _⟩; have HB6 := hid (HB5.out.grown hg6 HB5.out.size (fun r hr => by injection hr with hr; omega)); have HC6 := hid (HC5.out.grown hg6 HC5.out.size (fun r hr => by injection hr with hr; omega)); clear hg6)
      | (go_at_call 107; (with_reducible refine (CW.out _ HB6.out).mono ?_); rintro e W7 ⟨b7, rfl, hv7, hb7, hl7⟩; have HB7 := hid (HB6.out.trans (hb7.mono HB6.out.size)); have HC7 := hid (HC6.out.trans (hb7.mono HC6.out.size)); have HV7 := hid hv7; have hl7' : w.heap.size ≤ b7 := Nat.le_trans HB6.out.size hl7; have hl7'' : W2.heap.size ≤ b7 := Nat.le_trans HC6.out.size hl7; clear hb7 hv7 hl7)
      | (go_at_call 44; (with_reducible refine (CL.out b7 _ HB7.out hl7' HV7.out).mono ?_); rintro e W8 ⟨rfl, hg8, _⟩; have HB8 := hid (HB7.out.grown hg8 HB7.out.size (fun r hr => by injection hr with hr; omega)); have HC8 := hid (HC7.out.grown hg8 HC7.out.size (fun r hr => by injection hr with hr; omega)); clear hg8))
     all_goals (
      go_wp2_with fail
      go_ret
      exact ⟨rfl, below_grown HB8.out _, fun _ => by unfold behindS; rw [if_neg k1]; exact HV.out.below HB8.out⟩)
end Go.Proofs.YtemflcojebanlaaGreatDoor.NmC
