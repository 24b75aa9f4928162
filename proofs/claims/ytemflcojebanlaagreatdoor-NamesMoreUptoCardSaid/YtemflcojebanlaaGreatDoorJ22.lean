/- Texts joined: NmS, TreeRL, NmH, TreeTV, TreeTW. -/
import Derived.Test.YtemflcojebanlaaGreatDoorJ21
import Derived.Test.YtemflcojebanlaaGreatDoorJ14
import Derived.Test.YtemflcojebanlaaGreatDoorJ10
import Derived.Test.YtemflcojebanlaaGreatDoorJ17
import Derived.Test.YtemflcojebanlaaGreatDoorJ15
/- Contracts of names.formed, and of the closure that tells what is wrong. -/
namespace Go.Proofs.YtemflcojebanlaaGreatDoor.NmC
open Go Go.RowKit Go.Lib Go.Sort Go.Maps LexP TreeP LexC TreeC NmP ErrAs

set_option maxHeartbeats 1000000 in
theorem wrong_any (c p : Int) (ab : Nat) (w : World) (h : w.cell? ⟨ab, 0, none⟩ = some (.int .i64 p)) : Calls Tryz.prog 23 #[.int .i64 c, .pointer (some ⟨ab, 0, none⟩)] w fun r w' => r = .returned (.iface 56 (.pointer (some ⟨w.heap.size, 0, none⟩))) ∧ FaultAt w' w.heap.size p c ∧ Below w.heap.size w w' := by
 go_enter Tryz.func23, Tryz.ntmps23
 go_wp2_with fail
 go_ret
 exact ⟨rfl, heap_alloc_new _ _, (Below.refl _ _).alloc (Nat.le_refl _) _⟩
/-- what formed answers: a code, at a place -/
def FoPost (w : World) (p c : Int) (r : Ending) (w' : World) : Prop :=
 Below w.heap.size w w' ∧ (c = 0 → r = .returned .nilIface) ∧ (c ≠ 0 → ∃ b, r = .returned (.iface 56 (.pointer (some ⟨b, 0, none⟩))) ∧ FaultAt w' b p c)
set_option maxHeartbeats 16000000 in
set_option maxRecDepth 100000 in
theorem formed_any (f : TreeP.Fn) (ahead : List TreeP.Fn) (ba ab : Nat) (p : Int) (w : World) (hw : wF f ≤ 1048576) (hin : f.In w) (ha : AheadAt w ba ahead) (hp : w.cell? ⟨ab, 0, none⟩ = some (.int .i64 p)) :
  Calls Tryz.prog 24 #[f.val, .map (some ba), .func (.func 23) #[] #[.pointer (some ⟨ab, 0, none⟩)]] w (FoPost w p (formedP f ahead)) := by
 have hin0 := hin
 have hnl : ∀ s ∈ f.lives, s.size ≤ 1048576 := fun s hs => by
  obtain ⟨i, hi, e⟩ := List.mem_iff_getElem.1 hs
  have := wNs_get f.lives i s (by rw [List.getElem?_eq_getElem hi, e])
  unfold wF at hw; omega
 have hnp : ∀ s ∈ f.pars.map Pa.name, s.size ≤ 1048576 := fun s hs => by
  obtain ⟨q, hq, rfl⟩ := List.mem_map.1 hs
  obtain ⟨i, hi, e⟩ := List.mem_iff_getElem.1 hq
  have := wPas_get f.pars i q (by rw [List.getElem?_eq_getElem hi, e])
  unfold wPa at this; unfold wF at hw; omega
 have hlp := wPas_len f.pars
 have hll := wNs_len f.lives
 have hsb := wSs_len f.body
 have hwf := hw
 unfold wF at hwf
 have hlN : Names w f.livesV f.lives := ⟨hin.1, by omega⟩
 have hal := ha.lt
 have hpn : (f.pars.map Pa.name).map bs = parNames f.pars := by rw [List.map_map]; rfl
 have C1 := hid (fun (W : World) (k : Below w.heap.size w W) => setOf_any f.lives f.livesV W (hlN.keep (Keeps.of_below k)) hnl)
 have C2 := hid (fun (W : World) (k : Below w.heap.size w W) => paramNames_any f W (by omega) (hin0.keep (Keeps.of_below k)))
 have C3 := hid (fun (v : Value) (W : World) (hN : Names W v (f.pars.map Pa.name)) => setOf_any (f.pars.map Pa.name) v W hN hnp)
 have C4 := hid (fun (bm : Nat) (W : World) (k : Below w.heap.size w W) (hv : VarsAt W bm (f.lives.map bs)) => livesKnown_any f bm W (by omega) (hin0.keep (Keeps.of_below k)) hv)
 have C5 := hid (fun (W : World) (k : Below w.heap.size w W) => everyType_whole wholeT f W (by omega) (hin0.keep (Keeps.of_below k)) (fun t W' h1 h2 _ => whole_any t W' h1 h2))
 have C6 := hid (fun (bv : Nat) (W : World) (k : Below w.heap.size w W) (hb : w.heap.size ≤ bv) (hv : VarsAt W bv (parNames f.pars)) => stmtsOk ahead (wSs f.body) (by omega) f.body f.bodyV (parNames f.pars) ba bv W (Nat.le_refl _) (hin.2.2.2.2.1.1.keep (Keeps.of_below k)) (St.Ins.keep (Keeps.of_below k) _ hin.2.2.2.2.1.2) (ha.below k) hv (by omega) (by unfold parNames; rw [List.length_map]; omega))
 have C7 := hid (fun (bv : Nat) (W : World) (k : Below w.heap.size w W) (hv : VarsAt W bv (behind (parNames f.pars) f.body)) => pExpr_any (behind (parNames f.pars) f.body) ahead ba bv (wE f.value) f.value W (Nat.le_refl _) (by omega) (Ex.In.keep (Keeps.of_below k) _ hin.2.2.2.2.2) (ha.below k) hv)
 have CW := hid (fun (c : Int) (W : World) (k : Below w.heap.size w W) => wrong_any c p ab W (later k hp))
 rw [hpn] at C3
 obtain ⟨cl, hcl, hlk⟩ := ahead_look (ha.below ((Below.refl w.heap.size w).alloc (Nat.le_refl _) (.cells (TreeP.Fn.cells f).toArray 42))) (s := f.name) (by omega)
 obtain ⟨R, hR⟩ : ∃ R, formedP f ahead = R := ⟨_, rfl⟩
 rw [hR]
 unfold formedP headP wholeP bodyP at hR
 generalize livesKnownB f = lk at *
 generalize distB [] (f.lives.map bs) = q1 at *
 generalize distB [] (parNames f.pars) = q2 at *
 generalize (f.pars.all (fun p => wholeT p.type) && wholeT f.gives) = wh at *
 generalize stmtsP (parNames f.pars) ahead f.body = st at *
 generalize exprN (behind (parNames f.pars) f.body) ahead f.value = ex at *
 generalize hbl : f.lives.map bs = LV at *
 generalize hbp : parNames f.pars = PV at *
 generalize behind PV f.body = BV at *
 rw [show (parsN (bs f.name) ahead).isNone = !(parsN (bs f.name) ahead).isSome by cases parsN (bs f.name) ahead <;> rfl] at hR
 generalize (parsN (bs f.name) ahead).isSome = tw at *
 obtain ⟨nm, pl, zl, cll, li, pp, zp, cp, pars, gik, gn, gm, pg, zg, cg, gq, po, zo, co, lio, pd, zd, cd, lib, ke, ne, te, me, pe, ze, ce, qe, rfl⟩ := fn_parts hin
 simp only at *
 rw [fn_val] at *
 have X0 : Hid (BoxAt (w.alloc (.cells #[.string nm, .slice pl zl cll, .slice pp zp cp, .int .i64 gik, .string gn, .bool gm, .slice pg zg cg, .slice po zo co, .slice pd zd cd, .int .i64 ke, .int .i64 ne, .string te, .bool me, .slice pe ze ce] 42)) w.heap.size [.string nm, .slice pl zl cll, .slice pp zp cp, .int .i64 gik, .string gn, .bool gm, .slice pg zg cg, .slice po zo co, .slice pd zd cd, .int .i64 ke, .int .i64 ne, .string te, .bool me, .slice pe ze ce]) := hid (BoxAt.new w _ _)
 have B0 := hid (show Below w.heap.size w (w.alloc (.cells #[.string nm, .slice pl zl cll, .slice pp zp cp, .int .i64 gik, .string gn, .bool gm, .slice pg zg cg, .slice po zo co, .slice pd zd cd, .int .i64 ke, .int .i64 ne, .string te, .bool me, .slice pe ze ce] 42)) from (Below.refl _ _).alloc (Nat.le_refl _) _)
 have HS := hid hR
 change Sem.run _ _ (w.alloc (.cells #[.string nm, .slice pl zl cll, .slice pp zp cp, .int .i64 gik, .string gn, .bool gm, .slice pg zg cg, .slice po zo co, .slice pd zd cd, .int .i64 ke, .int .i64 ne, .string te, .bool me, .slice pe ze ce] 42)) = .ok _ (w.alloc (.cells #[.string nm, .slice pl zl cll, .slice pp zp cp, .int .i64 gik, .string gn, .bool gm, .slice pg zg cg, .slice po zo co, .slice pd zd cd, .int .i64 ke, .int .i64 ne, .string te, .bool me, .slice pe ze ce] 42)) at hlk
 clear hin hin0 hnl hnp hlp hll hsb hwf hw hlN hpn hcl hR ha hp hbl hbp
 have d0 := box_get X0.out (j := 0) rfl
 have d1 := box_get X0.out (j := 1) rfl
 go_enter Tryz.func24, Tryz.ntmps24
 go_wp2_with fail
 refine (C1.out _ B0.out).mono ?_
 rintro e W1 ⟨b1, rfl, hv1, hb1, hl1⟩
 have B1 := hid (B0.out.trans (hb1.mono B0.out.size))
 have X1 := hid (X0.out.later hb1)
 have HV1 := hid hv1
 clear d0 d1 hb1 hv1 hl1 hlk B0 X0 C1
 have d0 := box_get X1.out (j := 0) rfl
 have d1 := box_get X1.out (j := 1) rfl
 have d2 := box_get X1.out (j := 2) rfl
 have d3 := box_get X1.out (j := 3) rfl
 have d4 := box_get X1.out (j := 4) rfl
 have d5 := box_get X1.out (j := 5) rfl
 have d6 := box_get X1.out (j := 6) rfl
 have d7 := box_get X1.out (j := 7) rfl
 have d8 := box_get X1.out (j := 8) rfl
 have d9 := box_get X1.out (j := 9) rfl
 have d10 := box_get X1.out (j := 10) rfl
 have d11 := box_get X1.out (j := 11) rfl
 have d12 := box_get X1.out (j := 12) rfl
 have d13 := box_get X1.out (j := 13) rfl
 go_wp2_with fail
 refine (C2.out W1 B1.out).mono ?_
 rintro e W2 ⟨v2, rfl, hn2, hb2⟩
 have B2 := hid (B1.out.trans (hb2.mono B1.out.size))
 have X2 := hid (X1.out.later hb2)
 have HV2 := hid (HV1.out.below hb2)
 have HN2 := hid hn2
 clear d0 d1 d2 d3 d4 d5 d6 d7 d8 d9 d10 d11 d12 d13 hb2 hn2 C2 HV1 B1 X1
 go_wp2_with fail
 refine (C3.out v2 W2 HN2.out).mono ?_
 rintro e W3 ⟨b3, rfl, hv3, hb3, hl3⟩
 have B3 := hid (B2.out.trans (hb3.mono B2.out.size))
 have X3 := hid (X2.out.later hb3)
 have HV3 := hid (HV2.out.below hb3)
 have HW3 := hid hv3
 have hlt3 : w.heap.size < b3 := Nat.lt_of_lt_of_le X2.out.lt hl3
 have hlt3' : b3 < W3.heap.size := hv3.lt
 clear hb3 hv3 hl3 C3 HV2 B2 X2 HN2
 cases tw with
 | true =>
  have K : R = 4 := by rw [← HS.out]; rfl
  subst K
  go_wp2_with fail
  refine (CW.out 4 W3 B3.out).mono ?_
  rintro e W9 ⟨rfl, hf9, hb9⟩
  go_wp2_with fail
  go_ret
  exact ⟨B3.out.trans (hb9.mono B3.out.size), fun h => absurd h (by decide), fun _ => ⟨_, rfl, hf9⟩⟩
 | false =>
  cases q1 with
  | false =>
   have K : R = 4 := by rw [← HS.out]; rfl
   subst K
   go_wp2_with fail
   refine (CW.out 4 W3 B3.out).mono ?_
   rintro e W9 ⟨rfl, hf9, hb9⟩
   go_wp2_with fail
   go_ret
   exact ⟨B3.out.trans (hb9.mono B3.out.size), fun h => absurd h (by decide), fun _ => ⟨_, rfl, hf9⟩⟩
  | true =>
   cases q2 with
   | false =>
    have K : R = 4 := by rw [← HS.out]; rfl
    subst K
    go_wp2_with fail
    refine (CW.out 4 W3 B3.out).mono ?_
    rintro e W9 ⟨rfl, hf9, hb9⟩
    go_wp2_with fail
    go_ret
    exact ⟨B3.out.trans (hb9.mono B3.out.size), fun h => absurd h (by decide), fun _ => ⟨_, rfl, hf9⟩⟩
   | true =>
    have d0 := box_get X3.out (j := 0) rfl
    have d1 := box_get X3.out (j := 1) rfl
    have d2 := box_get X3.out (j := 2) rfl
    have d3 := box_get X3.out (j := 3) rfl
    have d4 := box_get X3.out (j := 4) rfl
    have d5 := box_get X3.out (j := 5) rfl
    have d6 := box_get X3.out (j := 6) rfl
    have d7 := box_get X3.out (j := 7) rfl
    have d8 := box_get X3.out (j := 8) rfl
    have d9 := box_get X3.out (j := 9) rfl
    have d10 := box_get X3.out (j := 10) rfl
    have d11 := box_get X3.out (j := 11) rfl
    have d12 := box_get X3.out (j := 12) rfl
    have d13 := box_get X3.out (j := 13) rfl
    go_wp2_with fail
    refine (C4.out b1 W3 B3.out HV3.out).mono ?_
    rintro e W4 ⟨rfl, hb4⟩
    have B4 := hid (B3.out.trans (hb4.mono B3.out.size))
    have X4 := hid (X3.out.later hb4)
    have HW4 := hid (HW3.out.below hb4)
    have hs4 : W3.heap.size ≤ W4.heap.size := hb4.size
    clear d0 d1 d2 d3 d4 d5 d6 d7 d8 d9 d10 d11 d12 d13 hb4 C4 HV3 HW3 B3 X3
    cases lk with
    | false =>
     have K : R = 4 := by rw [← HS.out]; rfl
     subst K
     go_wp2_with fail
     refine (CW.out 4 W4 B4.out).mono ?_
     rintro e W9 ⟨rfl, hf9, hb9⟩
     go_wp2_with fail
     go_ret
     exact ⟨B4.out.trans (hb9.mono B4.out.size), fun h => absurd h (by decide), fun _ => ⟨_, rfl, hf9⟩⟩
    | true =>
     have d0 := box_get X4.out (j := 0) rfl
     have d1 := box_get X4.out (j := 1) rfl
     have d2 := box_get X4.out (j := 2) rfl
     have d3 := box_get X4.out (j := 3) rfl
     have d4 := box_get X4.out (j := 4) rfl
     have d5 := box_get X4.out (j := 5) rfl
     have d6 := box_get X4.out (j := 6) rfl
     have d7 := box_get X4.out (j := 7) rfl
     have d8 := box_get X4.out (j := 8) rfl
     have d9 := box_get X4.out (j := 9) rfl
     have d10 := box_get X4.out (j := 10) rfl
     have d11 := box_get X4.out (j := 11) rfl
     have d12 := box_get X4.out (j := 12) rfl
     have d13 := box_get X4.out (j := 13) rfl
     go_wp2_with fail
     refine (C5.out W4 B4.out).mono ?_
     rintro e W5 ⟨rfl, hb5⟩
     have B5 := hid (B4.out.trans (hb5.mono B4.out.size))
     have X5 := hid (X4.out.later hb5)
     have HW5 := hid (HW4.out.below hb5)
     have hs5 : W3.heap.size ≤ W5.heap.size := Nat.le_trans hs4 hb5.size
     clear d0 d1 d2 d3 d4 d5 d6 d7 d8 d9 d10 d11 d12 d13 hb5 C5 HW4 B4 X4
     cases wh with
     | false =>
      have K : R = 5 := by rw [← HS.out]; rfl
      subst K
      go_wp2_with fail
      refine (CW.out 5 W5 B5.out).mono ?_
      rintro e W9 ⟨rfl, hf9, hb9⟩
      go_wp2_with fail
      go_ret
      exact ⟨B5.out.trans (hb9.mono B5.out.size), fun h => absurd h (by decide), fun _ => ⟨_, rfl, hf9⟩⟩
     | true =>
      have hb6 : Below W5.heap.size W5 (W5.alloc (.cells #[.map (some ba), .map (some b3)] 88)) := (Below.refl _ _).alloc (Nat.le_refl _) _
      have B6 := hid (B5.out.trans (hb6.mono B5.out.size))
      have X6 := hid (X5.out.later hb6)
      have HW6 := hid (HW5.out.below hb6)
      have Y6 : Hid (BoxAt (W5.alloc (.cells #[.map (some ba), .map (some b3)] 88)) W5.heap.size [.map (some ba), .map (some b3)]) := hid (BoxAt.new W5 _ _)
      have hlt6 : W5.heap.size < (W5.alloc (.cells #[.map (some ba), .map (some b3)] 88)).heap.size := by rw [World.size_alloc]; omega
      have d8 := box_get X6.out (j := 8) rfl
      have C66 := hid (C6.out b3 _ B6.out (by omega) HW6.out)
      clear hb6 HW5 B5 X5 C6
      go_wp2_with fail
      refine C66.out.mono ?_
      rintro e W7 ⟨rfl, hg7, hv7⟩
      have B7 := hid (B6.out.grown hg7 B6.out.size (fun r hr => by injection hr with hr; omega))
      have X7 : Hid (BoxAt W7 w.heap.size [.string nm, .slice pl zl cll, .slice pp zp cp, .int .i64 gik, .string gn, .bool gm, .slice pg zg cg, .slice po zo co, .slice pd zd cd, .int .i64 ke, .int .i64 ne, .string te, .bool me, .slice pe ze ce]) := hid fun j u h => by
       rw [hg7.cell_far ⟨w.heap.size, j, none⟩ (by show w.heap.size < _; omega) (by simp; omega)]; exact X6.out j u h
      have Y7 : Hid (BoxAt W7 W5.heap.size [.map (some ba), .map (some b3)]) := hid fun j u h => by
       rw [hg7.cell_far ⟨W5.heap.size, j, none⟩ hlt6 (by simp; omega)]; exact Y6.out j u h
      clear d8 C66 hg7 Y6 X6 B6 hlt6
      cases st with
      | false =>
       have K : R = 4 := by rw [← HS.out]; rfl
       subst K
       go_wp2_with fail
       refine (CW.out 4 W7 B7.out).mono ?_
       rintro e W9 ⟨rfl, hf9, hb9⟩
       go_wp2_with fail
       go_ret
       exact ⟨B7.out.trans (hb9.mono B7.out.size), fun h => absurd h (by decide), fun _ => ⟨_, rfl, hf9⟩⟩
      | true =>
       have HV7 := hid (hv7 rfl)
       have e0 := box_get Y7.out (j := 0) rfl
       have e1 := box_get Y7.out (j := 1) rfl
       have d9 := box_get X7.out (j := 9) rfl
       have d10 := box_get X7.out (j := 10) rfl
       have d11 := box_get X7.out (j := 11) rfl
       have d12 := box_get X7.out (j := 12) rfl
       have d13 := box_get X7.out (j := 13) rfl
       go_wp2_with fail
       refine (C7.out b3 W7 B7.out HV7.out).mono ?_
       rintro e W8 ⟨rfl, hb8⟩
       have B8 := hid (B7.out.trans (hb8.mono B7.out.size))
       clear d9 d10 d11 d12 d13 e0 e1 hb8 C7 HV7 B7 X7 Y7
       cases ex with
       | false =>
        have K : R = 4 := by rw [← HS.out]; rfl
        subst K
        go_wp2_with fail
        refine (CW.out 4 W8 B8.out).mono ?_
        rintro e W9 ⟨rfl, hf9, hb9⟩
        go_wp2_with fail
        go_ret
        exact ⟨B8.out.trans (hb9.mono B8.out.size), fun h => absurd h (by decide), fun _ => ⟨_, rfl, hf9⟩⟩
       | true =>
        have K : R = 0 := by rw [← HS.out]; rfl
        subst K
        go_wp2_with fail
        go_ret
        exact ⟨B8.out, fun _ => rfl, fun h => absurd rfl h⟩
end Go.Proofs.YtemflcojebanlaaGreatDoor.NmC
/- Contract of lienbookref02.Right: is a program right? -/
namespace Go.Proofs.YtemflcojebanlaaGreatDoor.TreeC
open Go Go.RowKit Go.Lib Go.Sort LexP TreeP LexC

set_option maxHeartbeats 4000000 in
set_option maxRecDepth 100000 in
theorem rRight_any (l : List TreeP.Fn) (w : World) (v : Value) (hw : wFs l ≤ 1048576) (hin : ProgIn w v l) :
  Calls Tryz.prog 18 #[v] w fun r w' => r = .returned (.bool (rightP l)) ∧ Below w.heap.size w w' := by
 have c1 : Hid (∀ W, Keeps w W → Calls Tryz.prog 31 #[v] W fun r w' => r = .returned (.int .i64 (deepFs l : Int)) ∧ Below W.heap.size W w') := hid fun W k => rDeep_any l W v hw (hin.keep k)
 have c2 : Hid (∀ (i : Nat) (f : TreeP.Fn), l[i]? = some f → ∀ W, Keeps w W → Calls Tryz.prog 30 #[.agg (TreeP.Fn.cells f).toArray] W fun r w' => r = .returned (.bool (rightF f)) ∧ Below W.heap.size W w') := hid fun i f hf W k => by
  have := wFs_get l i f hf
  exact rRightF_any f W (by omega) (Fn.In.keep k (hin.2 f (List.mem_of_getElem? hf)))
 obtain ⟨hl, hI⟩ := hin
 have hlen := wFs_len l
 obtain ⟨p, cap, rfl, hcap, hx⟩ := id hl
 rw [List.length_map] at *
 obtain ⟨R, hR⟩ : ∃ R, rightP l = R := ⟨_, rfl⟩
 rw [hR]
 unfold rightP at hR
 have hd := deepFs_le l
 generalize hL : l.length = L at *
 generalize deepFs l = D at *
 have HR := hid hR
 have HL := hid hL
 have HX := hid hl
 clear hx hL hl hI hR
 go_enter Tryz.func18, Tryz.ntmps18
 go_wp2_with fail
 go_loopg [3] L (fun gf v wx => ∃ i : Nat, v = .int .i64 (i : Int) ∧ i ≤ L ∧ L ≤ i + gf ∧ Hid (l.all rightF = (l.drop i).all rightF) ∧ Hid (Below w.heap.size w wx))
 case atStart => exact ⟨0, rfl, by omega, by omega, hid (by simp), hid (Below.refl _ _)⟩
 case round =>
  obtain ⟨i, rfl, hi, hg, HA, HB⟩ := hrel
  by_cases hlt : i < L
  ·obtain ⟨f, ht⟩ : ∃ f, l[i]? = some f := ⟨l[i]'(by rw [HL.out]; exact hlt), List.getElem?_eq_getElem _⟩
   obtain ⟨b, off, cap', e, _, hx⟩ := Lies.at (HX.out.keep (Keeps.of_below HB.out)) (i := i) (by rw [List.length_map, HL.out]; exact hlt)
   injection e with e1 e2 e3
   subst e1
   clear e2 e3
   have hx' : ∀ (j : Nat) (u : Value), (TreeP.Fn.cells f)[j]? = some u → wr.cell? ⟨b, off + i * 14 + j, none⟩ = some u := hx i (TreeP.Fn.cells f) (by rw [List.getElem?_map, ht]; rfl)
   have cF := c2.out i f ht wr (Keeps.of_below HB.out)
   have hr := all_drop rightF ht
   have ZF := hid (fnSize f)
   generalize TreeP.Fn.cells f = fcs at *
   generalize rightF f = rf at *
   have CF := hid cF
   have HC := hid hx'
   have HRR := hid hr
   clear hx hx' ht cF hr
   cases rf
   ·have K : Hid (l.all rightF = false) := hid (by rw [HA.out, HRR.out]; rfl)
    go_wp2_with (with_reducible refine wpList_load_at (o := ⟨some 13, _, _, _, _, _⟩) rfl _ _ rfl b (off + i * 14) rfl fcs _ HC.out Tryz.underlying42 rfl ZF.out ?_)
    with_reducible refine CF.out.mono ?_
    rintro e W2 ⟨rfl, hb2⟩
    go_wp2_with fail
    go_ret
    exact ⟨ret_bool (by rw [← HR.out, K.out]; rfl), HB.out.trans (hb2.mono HB.out.size)⟩
   ·have K : Hid (l.all rightF = (l.drop (i + 1)).all rightF) := hid (by rw [HA.out, HRR.out]; rfl)
    go_wp2_with (with_reducible refine wpList_load_at (o := ⟨some 13, _, _, _, _, _⟩) rfl _ _ rfl b (off + i * 14) rfl fcs _ HC.out Tryz.underlying42 rfl ZF.out ?_)
    with_reducible refine CF.out.mono ?_
    rintro e W2 ⟨rfl, hb2⟩
    go_wp2_with fail
    go_roundg (gk - 1)
    case measure => omega
    case rel => exact ⟨i + 1, by go_num, by omega, by omega, K, hid (HB.out.trans (hb2.mono HB.out.size))⟩
  ·obtain rfl : i = L := by omega
   have K : Hid ((decide (i ≤ 30) && decide (D ≤ 40)) = R) := hid (by
    have h := HA.out
    rw [← HL.out, List.drop_length] at h
    rw [← HR.out, h]; rfl)
   by_cases h30 : i ≤ 30
   ·go_wp2_with fail
    with_reducible refine (c1.out _ (Keeps.of_below HB.out)).mono ?_
    rintro e W2 ⟨rfl, hb2⟩
    go_wp2_with fail
    go_ret
    exact ⟨ret_bool (by rw [← K.out, Bool.eq_iff_iff]; simp [h30]; omega), HB.out.trans (hb2.mono HB.out.size)⟩
   ·go_wp2_with fail
    go_ret
    exact ⟨ret_bool (by rw [← K.out]; simp [h30]), HB.out⟩
end Go.Proofs.YtemflcojebanlaaGreatDoor.TreeC
/- Contract of lienbookref04's Check: a code, and a place. -/
namespace Go.Proofs.YtemflcojebanlaaGreatDoor.NmC
open Go Go.RowKit Go.Lib Go.Sort LexP TreeP LexC TreeC NmP

theorem parsV_of {w : World} {l : List TreeP.Fn} (h : ∀ f ∈ l, f.In w) : ParsV l := fun f hf => by
 obtain ⟨_, ⟨⟨p, cap, e, _⟩, _⟩, _⟩ := h f hf
 exact ⟨p, cap, by rw [List.length_map] at e; exact e⟩
theorem lies_take {w : World} {size : Nat} {p : Option Addr} {n cap i : Nat} {xs : List (List Value)} (h : Lies w size (.slice p n cap) xs) (hi : i ≤ xs.length) : Lies w size (.slice p i cap) (xs.take i) := by
 obtain ⟨p', cap', e, h2, h3⟩ := h
 injection e with e1 e2 e3
 subst e1 e2 e3
 refine ⟨p, cap, by rw [List.length_take]; congr 1; omega, by rw [List.length_take]; omega, fun hne => ?_⟩
 obtain ⟨b, off, h4, h5⟩ := h3 (fun e => hne (by rw [e]; simp))
 exact ⟨b, off, h4, fun j c hj o u ho => h5 j c (by
  have hlt := (List.getElem?_eq_some_iff.1 hj).1
  rw [List.length_take] at hlt
  rw [List.getElem?_take, if_pos (by omega)] at hj
  exact hj) o u ho⟩
theorem goN_drop {l : List TreeP.Fn} {i : Nat} {f : TreeP.Fn} (h : l[i]? = some f) : goN (l.take i) (l.drop i) = if formedN f (l.take i) = 0 then goN (l.take (i + 1)) (l.drop (i + 1)) else (formedN f (l.take i), (i : Int)) := by
 have hlt : i < l.length := (List.getElem?_eq_some_iff.1 h).1
 rw [drop_cons h, goN, List.take_add_one, h]
 have : (List.take i l).length = i := by rw [List.length_take]; omega
 rw [this]
 rfl
theorem formedN_rng (f : TreeP.Fn) (a : List TreeP.Fn) : formedN f a = 0 ∨ formedN f a = 4 ∨ formedN f a = 5 := by
 unfold formedN
 repeat' split
 all_goals simp

set_option maxHeartbeats 16000000 in
set_option maxRecDepth 100000 in
theorem rCheck_any (l : List TreeP.Fn) (w : World) (v : Value) (hw : wFs l ≤ 1048576) (hin : ProgIn w v l) :
    Calls Tryz.prog 8 #[v] w fun r w' => r = .returned (.tuple #[.int .i64 (checkN l).1, .int .i64 (checkN l).2]) ∧ Below w.heap.size w w' := by
  have hlen := wFs_len l
  have CR := hid (rRight_any l w v hw hin)
  obtain ⟨c, a, hR⟩ : ∃ c a, checkN l = (c, a) := ⟨_, _, rfl⟩
  rw [hR]
  obtain ⟨q, hq⟩ : ∃ q, rightP l = q := ⟨_, rfl⟩
  unfold checkN at hR
  rw [hq] at CR hR
  clear hq
  cases q with
  | false =>
    cases hR
    go_enter Tryz.func8, Tryz.ntmps8
    go_wp2_with fail
    refine CR.out.mono ?_
    rintro e W1 ⟨rfl, hb1⟩
    go_wp2_with fail
    go_ret2
    exact ⟨rfl, hb1⟩
  | true =>
    rw [if_pos rfl] at hR
    obtain ⟨hl, hall⟩ := hin
    have CFm := hid (fun (i : Nat) (f : TreeP.Fn) (hf : l[i]? = some f) (av : Value) (W : World) (k : Keeps w W) (ha : Ahead W av (l.take i)) => by
      have := wFs_get l i f hf
      exact rFormed_any f (l.take i) av W (by omega) ((hall f (List.mem_of_getElem? hf)).keep k) ha)
    obtain ⟨p, cap, rfl, hcap, hx⟩ := id hl
    rw [List.length_map] at *
    have HS := hid hR
    have HX := hid hl
    have HI := hid hall
    have hll : l.length ≤ 1048576 := by omega
    generalize hL : l.length = L at *
    have HL := hid hL
    clear hx hL hl hall hR hw
    go_enter Tryz.func8, Tryz.ntmps8
    go_wp2_with fail
    refine CR.out.mono ?_
    rintro e W1 ⟨rfl, hb1⟩
    have HB0 := hid hb1
    clear CR hb1
    go_wp2_with fail
    go_loopg [4] L (fun gf u4 wx => ∃ i : Nat, u4 = .int .i64 (i : Int) ∧ i ≤ L ∧ L ≤ i + gf ∧ Hid (goN (l.take i) (l.drop i) = (c, a)) ∧ Hid (Below w.heap.size w wx))
    case atStart => exact ⟨0, rfl, by omega, by omega, HS, HB0⟩
    case round =>
      obtain ⟨i, rfl, hi, hg, HG, HB⟩ := hrel
      clear HB0 HS
      by_cases hlt : i < L
      · obtain ⟨f, ht⟩ : ∃ f, l[i]? = some f := ⟨l[i]'(by rw [HL.out]; exact hlt), List.getElem?_eq_getElem _⟩
        obtain ⟨b, off, cap', e, _, hx⟩ := Lies.at (HX.out.keep (Keeps.of_below HB.out)) (i := i) (by rw [List.length_map, HL.out]; exact hlt)
        injection e with e1 e2 e3
        subst e1
        clear e2 e3
        have hx' := hx i _ (by rw [List.getElem?_map, ht]; rfl)
        have hgo := goN_drop ht
        rw [HG.out] at hgo
        have ha : ∀ W, Keeps wr W → Ahead W (.slice (some ⟨b, off, none⟩) i cap) (l.take i) := fun W k =>
          ⟨by have := lies_take (i := i) ((HX.out.keep (Keeps.of_below HB.out)).keep k) (by rw [List.length_map, HL.out]; omega); rw [List.map_take]; exact this,
           parsV_of fun g hg => HI.out g (List.mem_of_mem_take hg), by rw [List.length_take, HL.out]; omega⟩
        have CF := hid (fun d os => Calls.regrown_of (CFm.out i f ht (.slice (some ⟨b, off, none⟩) i cap) (grow (redrawn wr d) os) ((Keeps.of_below HB.out).trans (Keeps.of_below (below_regrown wr d os))) (ha _ (Keeps.of_below (below_regrown wr d os)))))
        unfold TreeP.Fn.val at CF
        have ZF := hid (fnSize f)
        have P1 := hid (reg_cells hx')
        have hrg := formedN_rng f (l.take i)
        generalize formedN f (l.take i) = code at *
        generalize TreeP.Fn.cells f = fcs at *
        have i1 : (i : Int) < (L : Int) := by omega
        have i0 : (0 : Int) ≤ (i : Int) := by omega
        have HGO := hid hgo
        have HRG := hid hrg
        clear hx hx' ht hgo ha hrg HG
        go_wp2_with fail
        refine wp_region_quiet_below (by kernel_rfl) (by kernel_rfl) ?_
        repeat (first | ((with_reducible refine wpQuiet_load_at (o := ⟨some 19, _, _, _, _, _⟩) rfl _ _ rfl b (off + i * 14) rfl fcs _ P1.out Tryz.underlying42 rfl ZF.out ?_); simp only [Act.put, List.setIfInBounds_toArray, List.set_cons_zero, List.set_cons_succ]) | go_big_quiet_step (first | (with_reducible exact CF.out _ _)))
        refine wpQuiet_nil ?_
        intro _ hw'
        obtain ⟨⟨dq, osq⟩, hw''⟩ := hw'
        subst hw''
        have B3 := hid (HB.out.trans ((below_regrown wr dq osq).mono HB.out.size))
        clear HB CF P1
        rcases HRG.out with h0 | h0
        · subst h0
          have HG2 : Hid (goN (l.take (i + 1)) (l.drop (i + 1)) = (c, a)) := hid (by rw [HGO.out, if_pos rfl])
          clear HGO HRG
          go_wp2_with fail
          go_roundg (gk - 1)
          case measure => omega
          case rel => exact ⟨i + 1, by go_num, by omega, by omega, HG2, B3⟩
        · have hc : c = code ∧ a = (i : Int) := by
            have := HGO.out
            rw [if_neg (by omega)] at this
            cases this
            exact ⟨rfl, rfl⟩
          obtain ⟨rfl, rfl⟩ := hc
          have hpos : (0 : Int) < c := by omega
          clear HGO HRG h0
          go_wp2_with fail
          go_ret2
          exact ⟨rfl, B3.out⟩
      · obtain rfl : i = L := by omega
        have hgo : goN l [] = (c, a) := by have := HG.out; rw [← HL.out, List.take_length, List.drop_length] at this; exact this
        clear HG
        cases i with
        | zero =>
          have hnil : l = [] := List.length_eq_zero_iff.1 HL.out
          subst hnil
          cases hgo
          go_wp2_with fail
          go_ret2
          exact ⟨rfl, HB.out⟩
        | succ m =>
          obtain ⟨f, ht⟩ : ∃ f, l[m]? = some f := ⟨l[m]'(by rw [HL.out]; omega), List.getElem?_eq_getElem _⟩
          have hlast : l.getLast? = some f := by rw [List.getLast?_eq_getElem?, HL.out]; exact ht
          rw [goN, hlast] at hgo
          simp only [HL.out] at hgo
          obtain ⟨b, off, cap', e, _, hx⟩ := Lies.at (HX.out.keep (Keeps.of_below HB.out)) (i := m) (by rw [List.length_map, HL.out]; omega)
          injection e with e1 e2 e3
          subst e1
          clear e2 e3
          have hx' := hx m _ (by rw [List.getElem?_map, ht]; rfl)
          obtain ⟨⟨lp, lc, el, _⟩, ⟨⟨pp, pc, ep, _⟩, _⟩, _⟩ := HI.out f (List.mem_of_getElem? ht)
          unfold mainB bareB at hgo
          obtain ⟨name, livesV, lives, parsV, pars, ⟨gik, gl, gm, gv, gks⟩, outsV, outs, bodyV, body, ⟨vk, vn, vs, vm, vv, vks⟩⟩ := f
          simp only [List.length_map] at el ep hgo
          have y0 : wr.cell? ⟨b, off + m * 14, none⟩ = some (.string name) := hx' 0 _ rfl
          have y1 : wr.cell? ⟨b, off + m * 14 + 1, none⟩ = some livesV := hx' 1 _ rfl
          have y2 : wr.cell? ⟨b, off + m * 14 + 2, none⟩ = some parsV := hx' 2 _ rfl
          have y3 : wr.cell? ⟨b, off + m * 14 + 3, none⟩ = some (.int .i64 gik) := hx' 3 _ rfl
          rw [el] at y1
          rw [ep] at y2
          rw [show (Ty.mk gik gl gm gv gks).kind = gik from rfl] at hgo
          generalize lives.length = NL at *
          generalize pars.length = NP at *
          clear hx hx' ht hlast el ep CFm HI HX
          have im : (((m + 1 : Nat) : Int) == 0) = false := by simp; omega
          have im1 : ((m + 1 : Nat) : Int) - 1 = (m : Int) := by omega
          have hnm : (bs name == [109, 97, 105, 110]) = (name.toList == [109, 97, 105, 110]) := by rw [Lib.toList_data]
          rw [hnm] at hgo
          clear hnm
          cases hn : (name.toList == [109, 97, 105, 110]) with
          | false =>
            rw [hn] at hgo
            simp only [Bool.false_eq_true, if_false] at hgo
            cases hgo
            go_wp2_with fail
            go_ret2
            exact ⟨rfl, HB.out⟩
          | true =>
            rw [hn, if_pos rfl] at hgo
            by_cases hN : NL = 0
            · by_cases hP : NP = 0
              · by_cases hK : gik = 1
                · subst hN hP hK
                  simp only [beq_self_eq_true, Bool.and_self, if_true] at hgo
                  cases hgo
                  go_wp2_with fail
                  go_ret2
                  exact ⟨rfl, HB.out⟩
                · have hk : (gik == 1) = false := by simp [hK]
                  rw [hk, Bool.and_false] at hgo
                  simp only [Bool.false_eq_true, if_false] at hgo
                  cases hgo
                  subst hN hP
                  have hk2 : (gik != 1) = true := by simp [hK]
                  go_wp2_with fail
                  go_ret2
                  exact ⟨rfl, HB.out⟩
              · have hk : (NP == 0) = false := by simp [hP]
                rw [hk, Bool.and_false, Bool.false_and] at hgo
                simp only [Bool.false_eq_true, if_false] at hgo
                cases hgo
                subst hN
                have hk2 : (0 : Int) < (NP : Int) := by omega
                go_wp2_with fail
                go_ret2
                exact ⟨rfl, HB.out⟩
            · have hk : (NL == 0) = false := by simp [hN]
              rw [hk, Bool.false_and, Bool.false_and] at hgo
              simp only [Bool.false_eq_true, if_false] at hgo
              cases hgo
              have hk2 : (0 : Int) < (NL : Int) := by omega
              go_wp2_with fail
              go_ret2
              exact ⟨rfl, HB.out⟩
end Go.Proofs.YtemflcojebanlaaGreatDoor.NmC
/- What is in a type, an expression, a statement lies in memory as it must; what looks into them, as tree.sound asks. -/
namespace Go.Proofs.YtemflcojebanlaaGreatDoor.TreeC
open Go Go.RowKit Go.Lib Go.Sort LexP TreeP LexC

theorem mem_wT {l : List Ty} {x : Ty} (h : x ∈ l) : wT x ≤ wTs l := by
 obtain ⟨i, hi, e⟩ := List.mem_iff_getElem.1 h
 exact wTs_get l i x (by rw [List.getElem?_eq_getElem hi, e])
theorem mem_wE {l : List Ex} {x : Ex} (h : x ∈ l) : wE x ≤ wEs l := by
 obtain ⟨i, hi, e⟩ := List.mem_iff_getElem.1 h
 exact wEs_get l i x (by rw [List.getElem?_eq_getElem hi, e])
theorem mem_wS {l : List St} {x : St} (h : x ∈ l) : wS x ≤ wSs l := by
 obtain ⟨i, hi, e⟩ := List.mem_iff_getElem.1 h
 exact wSs_get l i x (by rw [List.getElem?_eq_getElem hi, e])
theorem inT_ok (x : Ty) (n : Nat) (u : World) (h : x.In u) (hw : wT x ≤ 1048576) : ∀ t ∈ inT x n, okT u t := by
 obtain ⟨k, l, m, v, kids⟩ := x
 rw [Ty.In] at h
 rw [wT] at hw
 have hl := wTs_len kids
 intro t ht
 unfold inT at ht
 by_cases hk : k < 2 ∨ 4 < k
 ·simp only [if_pos hk] at ht; simp at ht
 ·simp only [if_neg hk] at ht
  rw [List.mem_singleton] at ht
  subst ht
  exact ⟨h.1, h.2, fun x hx => by have := mem_wT (l := kids) hx; omega, by show kids.length ≤ _; omega⟩
theorem operKids_ok (u : World) (s n : Nat) (v : Value) (all : List Ex) (hl : Lies u 5 v (all.map Ex.cells)) (hi : ∀ x ∈ all, x.In u ∧ wE x ≤ 1048576) :
  ∀ (l : List Ex) (i : Nat), all.drop i = l → ∀ t ∈ operKids s n v i l, okE u t
 | [], i, _, t, ht => by simp [operKids] at ht
 | x :: xs, i, hd, t, ht => by
  have hx : all[i]? = some x := by
   have := congrArg (fun l => l[0]?) hd
   simpa using this
  have hlt : i < all.length := (List.getElem?_eq_some_iff.1 hx).1
  rw [operKids, List.mem_cons] at ht
  rcases ht with rfl | ht
  ·obtain ⟨b, off, cap, rfl, hcap, hc⟩ := Lies.at hl (i := i) (by rw [List.length_map]; exact hlt)
   rw [List.length_map] at *
   have hm := hi x (List.mem_of_getElem? hx)
   refine ⟨?_, by rw [Ex.Ins, Ex.Ins]; exact ⟨hm.1, trivial⟩, fun y hy => by rw [List.mem_singleton] at hy; rw [hy]; exact hm.2, by show 1 ≤ _; omega⟩
   refine ⟨some ⟨b, off + i * 5, none⟩, cap - i, rfl, by show 1 ≤ _; omega, fun _ => ⟨b, off + i * 5, rfl, fun j c hj a q hq => ?_⟩⟩
   match j, hj with
   | 0, hj =>
    have hj' : some x.cells = some c := hj
    cases hj'
    have := hc i x.cells (by rw [List.getElem?_map, hx]; rfl) a q hq
    rw [Nat.zero_mul, Nat.add_zero]
    exact this
   | j + 1, hj => simp at hj
  ·exact operKids_ok u s n v all hl hi xs (i + 1) (by rw [← List.drop_drop, hd]; rfl) t ht
theorem inE_ok (x : Ex) (n : Nat) (u : World) (h : x.In u) (hw : wE x ≤ 1048576) : ∀ t ∈ inE x n, okE u t := by
 obtain ⟨k, num, l, m, v, kids⟩ := x
 rw [Ex.In] at h
 rw [wE] at hw
 have hl := wEs_len kids
 intro t ht
 unfold inE at ht
 by_cases hk : k < 3 ∨ 9 < k
 ·simp only [if_pos hk] at ht; simp at ht
 ·by_cases h8 : k = 8
  ·simp only [if_neg hk, if_pos h8] at ht
   rw [List.mem_cons] at ht
   rcases ht with rfl | ht
   ·exact ⟨lies_none, by rw [Ex.Ins]; trivial, fun x hx => by simp at hx, Nat.zero_le _⟩
   ·exact operKids_ok u _ n v kids h.2.1 (fun x hx => ⟨(Ex.ins_iff u kids).1 h.2.2 x hx, by have := mem_wE hx; omega⟩) kids 0 rfl t ht
  ·simp only [if_neg hk, if_neg h8] at ht
   rw [List.mem_singleton] at ht
   subst ht
   exact ⟨h.2.1, h.2.2, fun x hx => by have := mem_wE (l := kids) hx; omega, by show kids.length ≤ _; omega⟩
theorem inS_ok (x : St) (n : Nat) (u : World) (h : x.In u) (hw : wS x ≤ 1048576) : ∀ t ∈ inS x n, okS u t := by
 obtain ⟨k, name, p, e, tv, thn, ev, els⟩ := x
 rw [St.In] at h
 rw [wS] at hw
 have hl := wSs_len thn
 have hl2 := wSs_len els
 intro t ht
 unfold inS at ht
 simp only [List.mem_cons, List.not_mem_nil, or_false] at ht
 rcases ht with rfl | rfl
 ·exact ⟨h.2.2.1, h.2.2.2.1, fun x hx => by have := mem_wS (l := thn) hx; omega, by show thn.length ≤ _; omega⟩
 ·exact ⟨h.2.2.2.2.1, h.2.2.2.2.2, fun x hx => by have := mem_wS (l := els) hx; omega, by show els.length ≤ _; omega⟩

/-- looking into a type, into an expression: nothing is shown to the gauge -/
theorem opensT (gb lim : Nat) (w : World) : Opens Ty.cells (fun u x => Ty.In u x) wT inT (fun _ _ => 0) deepT 63 #[] gb lim w := fun x n dc W hn hD hin hw hb hg =>
 (inType_any x n W (by omega) (Ty.In.keep (fun b o u hc => hush_keeps gb W _ _ _ (hb.keeps _ _ _ hc)) x hin)).mono fun r w' ⟨v, h1, h2, h3⟩ =>
  ⟨v, dc, h1, h2, .of h3, hg.below h3 hg.lt, Nat.le_refl _, by omega, .inl (Nat.max_eq_left (Nat.zero_le _)).symm⟩
theorem opensE (gb lim : Nat) (w : World) : Opens Ex.cells (fun u x => Ex.In u x) wE inE (fun _ _ => 0) deepE 67 #[] gb lim w := fun x n dc W hn hD hin hw hb hg =>
 (inExpr_any x n W (by omega) (Ex.In.keep (fun b o u hc => hush_keeps gb W _ _ _ (hb.keeps _ _ _ hc)) x hin) (by
  obtain ⟨k, num, l, m, v, kids⟩ := x
  rw [wE] at hw
  have := wEs_len kids
  show kids.length ≤ _; omega)).mono fun r w' ⟨v, h1, h2, h3⟩ =>
  ⟨v, dc, h1, h2, .of h3, hg.below h3 hg.lt, Nat.le_refl _, by omega, .inl (Nat.max_eq_left (Nat.zero_le _)).symm⟩
/- Contract of (*tree.gauge).inStmt: what looks into a statement, as tree.sound asks. -/

theorem hush_below {gb : Nat} {w w' : World} (h : Below w.heap.size w w') : Keeps (hush gb w) (hush gb w') := (BelowX.of h).keeps
theorem flat_get {size : Nat} : ∀ (xs : List (List Value)), (∀ c ∈ xs, c.length = size) → ∀ (i : Nat) (c : List Value), xs[i]? = some c → ∀ (j : Nat) (u : Value), c[j]? = some u → (xs.flatMap id)[i * size + j]? = some u
 | [], _, i, c, hi, _, _, _ => by simp at hi
 | x :: xs, hs, 0, c, hi, j, u, hj => by
  rw [List.getElem?_cons_zero] at hi
  cases hi
  rw [List.flatMap_cons, Nat.zero_mul, Nat.zero_add]
  show (x ++ _)[j]? = _
  rw [List.getElem?_append_left (List.getElem?_eq_some_iff.1 hj).1]
  exact hj
 | x :: xs, hs, i + 1, c, hi, j, u, hj => by
  have h := flat_get xs (fun c hc => hs c (List.mem_cons_of_mem _ hc)) i c (by simpa using hi) j u hj
  have hx : x.length = size := hs x (List.mem_cons_self ..)
  rw [List.flatMap_cons]
  show (x ++ _)[(i + 1) * size + j]? = _
  rw [List.getElem?_append_right (by rw [hx, Nat.add_mul]; omega), hx, show (i + 1) * size + j - size = i * size + j by rw [Nat.add_mul]; omega]
  exact h
/-- some things laid side by side in a block of their own -/
theorem lies_cells {w : World} {b : Nat} {xs : List (List Value)} {size : Nat} (hs : ∀ c ∈ xs, c.length = size) (h : BoxAt w b (xs.flatMap id)) : Lies w size (.slice (some ⟨b, 0, none⟩) xs.length xs.length) xs := by
 refine ⟨some ⟨b, 0, none⟩, xs.length, rfl, Nat.le_refl _, fun _ => ⟨b, 0, rfl, fun i c hi j u hj => ?_⟩⟩
 rw [Nat.zero_add]
 refine h (i * size + j) u ?_
 clear h
 exact flat_get xs hs i c hi j u hj
theorem deepAt_two (n : Nat) (a b : Ex) : deepAt deepE n [a, b] = n + max (deepE a) (deepE b) := by simp only [deepAt]; omega
theorem nE_two (a b : Ex) : wAll nE [a, b] ≤ wE a + wE b := by have := nE_le a; have := nE_le b; simp only [wAll]; omega

set_option maxHeartbeats 8000000 in
set_option maxRecDepth 100000 in
theorem opensS (gb lim : Nat) (w : World) (hlim : lim ≤ 9223372036854775807) : Opens St.cells (fun u x => St.In u x) wS inS exS deepS 65 #[.pointer (some ⟨gb, 0, none⟩)] gb lim w := by
 intro x n dc W hn hD hin hw hb hg
 have hinW : St.In W x := St.In.keep (fun b o u hc => hush_keeps gb W _ _ _ (hb.keeps _ _ _ hc)) x hin
 have hinH : St.In (hush gb W) x := St.In.keep hb.keeps x hin
 show Calls Tryz.prog 65 #[.pointer (some ⟨gb, 0, none⟩), .agg (St.cells x).toArray, .int .i64 (n : Int)] W _
 have hz := stSize x
 have ho := st_ones hinW
 unfold Ones at ho
 have hX : BoxAt (W.alloc (.cells (St.cells x).toArray 68 (0, 0))) W.heap.size (St.cells x) := BoxAt.new _ _ _
 have hW1 : Below W.heap.size W (W.alloc (.cells (St.cells x).toArray 68 (0, 0))) := (Below.refl _ _).alloc (Nat.le_refl _) _
 obtain ⟨k, name, place, expr, tv, thn, ev, els⟩ := x
 have hn4 : n ≤ 4194304 := by omega
 have hwp : wE place ≤ 1048576 ∧ wE expr ≤ 1048576 ∧ wAll nE [place, expr] ≤ 1048576 := by
  have := nE_two place expr
  rw [wS] at hw
  omega
 have hds : n + 1 + max (deepE place) (deepE expr) ≤ n + deepS (St.mk k name place expr tv thn ev els) := by rw [deepS]; omega
 have hex : exS (St.mk k name place expr tv thn ev els) n = deepAt deepE (n + 1) [place, expr] := (deepAt_two (n + 1) place expr).symm
 have hdb : max dc (deepAt deepE (n + 1) [place, expr]) ≤ 4194304 := by rw [deepAt_two]; omega
 have y12 : (St.mk k name place expr tv thn ev els).cells[12]? = some tv := St.cells_tv ..
 have y13 : (St.mk k name place expr tv thn ev els).cells[13]? = some ev := St.cells_ev ..
 have yp : ∀ (j : Nat) (u : Value), place.cells[j]? = some u → (St.mk k name place expr tv thn ev els).cells[2 + j]? = some u := fun j u h => St.cells_place h
 have ye : ∀ (j : Nat) (u : Value), expr.cells[j]? = some u → (St.mk k name place expr tv thn ev els).cells[7 + j]? = some u := fun j u h => St.cells_expr h
 have hdt : ∀ d', d' ≤ max dc (deepAt deepE (n + 1) [place, expr]) → d' ≤ max dc (n + deepS (St.mk k name place expr tv thn ev els)) := fun d' h => by rw [deepAt_two] at h; omega
 rw [hex]
 generalize n + deepS (St.mk k name place expr tv thn ev els) = DD at *
 generalize (St.mk k name place expr tv thn ev els).cells = fcs at *
 rw [St.In] at hinW hinH
 obtain ⟨tp, tc, htv, htc, _⟩ := id hinH.2.2.1
 obtain ⟨ep, ec, hev, hec, _⟩ := id hinH.2.2.2.2.1
 rw [List.length_map] at htv hev
 subst htv
 subst hev
 have cells5 : ∀ e : Ex, e.In (hush gb W) → ∃ (a b : Int) (s : ByteArray) (m : Bool) (q : Option Addr) (x y : Nat), e.cells = [.int .i64 a, .int .i64 b, .string s, .bool m, .slice q x y] := fun e he => by
  obtain ⟨a, b, s, m, v, l⟩ := e
  rw [Ex.In] at he
  obtain ⟨q, c, rfl, _⟩ := he.2.1
  exact ⟨a, b, s, m, q, _, c, rfl⟩
 obtain ⟨pa, pb, ps, pm, pq, px, py, hpc⟩ := cells5 place hinH.1
 obtain ⟨ea, eb, es, em, eq, ex, ey, hec'⟩ := cells5 expr hinH.2.1
 have P1 : Hid (∀ (j : Nat) (u : Value), place.cells[j]? = some u → (W.alloc (.cells fcs.toArray 68 (0, 0))).cell? ⟨W.heap.size, 2 + j, none⟩ = some u) := hid fun j u h => hX (2 + j) u (yp j u h)
 have P2 : Hid (∀ (j : Nat) (u : Value), expr.cells[j]? = some u → (W.alloc (.cells fcs.toArray 68 (0, 0))).cell? ⟨W.heap.size, 7 + j, none⟩ = some u) := hid fun j u h => hX (7 + j) u (ye j u h)
 have ZP := hid (exSize place)
 have ZE := hid (exSize expr)
 rw [hpc] at P1 ZP
 rw [hec'] at P2 ZE
 have hW2 : Below W.heap.size W ((W.alloc (.cells fcs.toArray 68 (0, 0))).alloc (.cells #[.int .i64 pa, .int .i64 pb, .string ps, .bool pm, .slice pq px py, .int .i64 ea, .int .i64 eb, .string es, .bool em, .slice eq ex ey] 40 (0, 0))) := hW1.alloc (by have := hW1.size; omega) _
 have hX2 : BoxAt ((W.alloc (.cells fcs.toArray 68 (0, 0))).alloc (.cells #[.int .i64 pa, .int .i64 pb, .string ps, .bool pm, .slice pq px py, .int .i64 ea, .int .i64 eb, .string es, .bool em, .slice eq ex ey] 40 (0, 0))) W.heap.size fcs := hX.later ((Below.refl _ _).alloc (Nat.le_refl _) _)
 have hX3 : BoxAt ((W.alloc (.cells fcs.toArray 68 (0, 0))).alloc (.cells #[.int .i64 pa, .int .i64 pb, .string ps, .bool pm, .slice pq px py, .int .i64 ea, .int .i64 eb, .string es, .bool em, .slice eq ex ey] 40 (0, 0))) (W.heap.size + 1) ([place.cells, expr.cells].flatMap id) := by
  have h := BoxAt.new (W.alloc (.cells fcs.toArray 68 (0, 0))) ([place.cells, expr.cells].flatMap id) 40
  rw [show (W.alloc (.cells fcs.toArray 68 (0, 0))).heap.size = W.heap.size + 1 from Array.size_push ..] at h
  rw [hpc, hec'] at h ⊢
  exact h
 have CI : ∀ W2 : World, Below W.heap.size W W2 → BoxAt W2 (W.heap.size + 1) ([place.cells, expr.cells].flatMap id) → Calls Tryz.prog 66 #[.pointer (some ⟨gb, 0, none⟩), .agg #[.int .i64 ((n : Int) + 1), .slice (some ⟨W.heap.size + 1, 0, none⟩) 2 2], .func (.func 67) #[] #[]] W2 fun r w' => r = .returned (.tuple #[]) ∧
   ∃ d', dc ≤ d' ∧ d' ≤ max dc (deepAt deepE (n + 1) [place, expr]) ∧ GaugeAt w' gb d' lim ∧ Capped lim d' (max dc (deepAt deepE (n + 1) [place, expr])) ∧ BelowX gb W2.heap.size W2 w' := fun W2 hb2 hx2 => by
  have hbx : BoxAt (hush gb W2) (W.heap.size + 1) ([place.cells, expr.cells].flatMap id) := fun j u hj => hush_in (hx2 j u hj) (by have := hg.lt; omega)
  have hli := lies_cells (w := hush gb W2) (b := W.heap.size + 1) (xs := [place.cells, expr.cells]) (size := 5) (by intro c hc; simp at hc; rcases hc with rfl | rfl; rw [hpc]; rfl; rw [hec']; rfl) hbx
  exact sound_exSize ⟨n + 1, .slice (some ⟨W.heap.size + 1, 0, none⟩) 2 2, [place, expr]⟩ gb dc lim W2 (hg.below hb2 hg.lt) ⟨hli, by
   rw [Ex.Ins, Ex.Ins, Ex.Ins]
   exact ⟨Ex.In.keep (hush_below hb2) _ hinH.1, Ex.In.keep (hush_below hb2) _ hinH.2.1, trivial⟩, by
   intro x hx; simp at hx; rcases hx with rfl | rfl; exact hwp.1; exact hwp.2.1, by show 2 ≤ _; omega⟩ hwp.2.2 hdb hlim (opensE gb lim W2) inE_ok
 have CI' := hid (CI _ hW2 hX3)
 have ZS := hid hz
 have ZO := hid ho
 have XX := hid hX2
 have HT := hid hdt
 have HG := hid hg
 have Y := hid (And.intro y12 y13)
 have BB := hid hW2
 have IH := hid hinH
 generalize deepAt deepE (n + 1) [place, expr] = EE at *
 clear hX hz ho hinH hinW hin hw hD hg hb y12 y13 yp ye hW1 hW2 hX2 hX3 CI hdt hds hex hdb hwp cells5 hpc hec' hn hlim
 go_enter Tryz.func65, Tryz.ntmps65
 go_wp2_with (first | (with_reducible refine wpList_load_at (o := ⟨some 11, _, _, _, _, _⟩) rfl _ _ rfl W.heap.size 2 rfl [.int .i64 pa, .int .i64 pb, .string ps, .bool pm, .slice pq px py] _ P1.out Tryz.underlying40 rfl ZP.out ?_) | (with_reducible refine wpList_load_at (o := ⟨some 13, _, _, _, _, _⟩) rfl _ _ rfl W.heap.size 7 rfl [.int .i64 ea, .int .i64 eb, .string es, .bool em, .slice eq ex ey] _ P2.out Tryz.underlying40 rfl ZE.out ?_))
 with_reducible refine CI'.out.mono ?_
 rintro e W3 ⟨rfl, d', h1, h2, h3, h4, h5⟩
 have X3 := hid (h5.box XX.out (by have := HG.out.lt; omega))
 have l12 := box_get X3.out Y.out.1
 have l13 := box_get X3.out Y.out.2
 have G3 := hid h3
 have N3 := hid (And.intro h1 (And.intro (HT.out d' h2) h4))
 have B3 := hid (h5.pre (BelowX.of (gb := gb) BB.out) BB.out.size)
 clear CI' h1 h2 h3 h4 h5
 go_wp2_with fail
 go_ret
 have hbx := BoxAt.new W3 [.int .i64 ((n : Int) + 1), .slice tp thn.length tc, .int .i64 ((n : Int) + 1), .slice ep els.length ec] 127
 have hl := lies_cells (xs := (inS (St.mk k name place expr (.slice tp thn.length tc) thn (.slice ep els.length ec) els) n).map Shelf.cells) (size := 2) (by intro c hc; unfold inS at hc; simp at hc; rcases hc with rfl | rfl <;> rfl) hbx
 have hba : Below W3.heap.size W3 (W3.alloc (.cells [.int .i64 ((n : Int) + 1), .slice tp thn.length tc, .int .i64 ((n : Int) + 1), .slice ep els.length ec].toArray 127 (0, 0))) := (Below.refl _ _).alloc (Nat.le_refl _) _
 exact ⟨_, d', rfl, ⟨hl, fun n c h => by injection h with h0; cases h0⟩, B3.out.then (hba.mono B3.out.size), G3.out.below hba G3.out.lt, N3.out.1, N3.out.2.1, N3.out.2.2⟩
end Go.Proofs.YtemflcojebanlaaGreatDoor.TreeC
