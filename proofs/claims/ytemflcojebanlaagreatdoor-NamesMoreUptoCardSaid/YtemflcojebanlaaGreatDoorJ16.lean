/- Texts joined: NmI, NmF. -/
import Derived.Test.YtemflcojebanlaaGreatDoorJ07
import Derived.Test.YtemflcojebanlaaGreatDoorJ15
/- Rows of names' shelves (lists of types, and whether something is around them). -/
namespace Go.Proofs.YtemflcojebanlaaGreatDoor.NmC
open Go Go.RowKit Go.Lib Go.Sort LexP TreeP LexC TreeC NmP

structure NSh where
 v : Value
 list : List Ty
 ins : Bool
def NSh.cells (s : NSh) : List Value := [s.v, .bool s.ins]
def nsRow (l : List NSh) : List Value := l.flatMap NSh.cells
theorem nsRow_len : ∀ l : List NSh, (nsRow l).length = l.length * 2
 | [] => rfl
 | s :: l => by have := nsRow_len l; unfold nsRow at *; rw [List.flatMap_cons, List.length_append, this, List.length_cons]; show 2 + _ = _; omega
theorem nsRow_snoc (l : List NSh) (s : NSh) : nsRow (l ++ [s]) = nsRow l ++ s.cells := by simp [nsRow]
theorem nsRow_last (l : List NSh) (t : NSh) (j : Nat) (u : Value) (h : t.cells[j]? = some u) : (nsRow (l ++ [t]))[l.length * 2 + j]? = some u := by
 rw [nsRow_snoc, List.getElem?_append_right (by rw [nsRow_len]; omega), nsRow_len, show l.length * 2 + j - l.length * 2 = j by omega]
 exact h
def pairs (l : List NSh) : List (List Ty × Bool) := l.map (fun s => (s.list, s.ins))
theorem pairs_snoc (l : List NSh) (s : NSh) : pairs (l ++ [s]) = pairs l ++ [(s.list, s.ins)] := by simp [pairs]
def wNS : List NSh → Nat
 | [] => 0
 | s :: l => 1 + wTs s.list + wNS l
theorem wNS_app : ∀ l m : List NSh, wNS (l ++ m) = wNS l + wNS m
 | [], m => by simp [wNS]
 | s :: l, m => by rw [List.cons_append, wNS, wNS, wNS_app l m]; omega
theorem wNS_len : ∀ l : List NSh, l.length ≤ wNS l
 | [] => by simp [wNS]
 | s :: l => by have := wNS_len l; rw [wNS, List.length_cons]; omega
/-- how a shelf lies -/
def okN (u : World) (s : NSh) : Prop := Lies u 4 s.v (s.list.map Ty.cells) ∧ Ty.Ins u s.list
theorem ns_info : (Tryz.prog.info? 92).map (fun i => (i.zero, i.size, i.bytes)) = some (some (.agg #[.slice none 0 0, .bool false]), 2, 32) := by kernel_rfl
theorem wTs_drop {l : List Ty} {i : Nat} {t : Ty} (h : l[i]? = some t) : wTs (l.drop i) = wT t + wTs (l.drop (i + 1)) := by rw [drop_cons h, wTs]
theorem everyTs_drop {ok : Nm → Bool → Bool} {b : Bool} {l : List Ty} {i : Nat} {t : Ty} (h : l[i]? = some t) : everyTs ok b (l.drop i) = (everyT ok b t && everyTs ok b (l.drop (i + 1))) := by rw [drop_cons h, everyTs]
/- Contract of lienbookref04's stmts: the scope behind statements, or that a name may not be there. -/

def behindS1 (scope : List ByteArray) (s : St) : List ByteArray := if stK s = 1 then scope ++ [stN s] else scope
def behindA (scope : List ByteArray) : List St → List ByteArray
 | [] => scope
 | s :: ss => behindA (behindS1 scope s) ss
theorem behindA_bs : ∀ (l : List St) (scope : List ByteArray), (behindA scope l).map bs = behind (scope.map bs) l
 | [], _ => rfl
 | s :: ss, scope => by
  rw [behindA, behind, behindA_bs ss]
  congr 1
  unfold behindS1 behindS
  split <;> simp
theorem behindS1_bs (scope : List ByteArray) (s : St) : (behindS1 scope s).map bs = behindS (scope.map bs) (stK s) (bs (stN s)) := by
 unfold behindS1 behindS
 split <;> simp
/-- what stmts answers -/
def StPost (w : World) (R : Bool) (L : List ByteArray) (r : Ending) (w' : World) : Prop :=
 ∃ v, r = .returned (.tuple #[v, .bool R]) ∧ Below w.heap.size w w' ∧ (R = true → Names w' v L)

set_option maxHeartbeats 8000000 in
set_option maxRecDepth 100000 in
theorem rStmts_any : ∀ (n : Nat) (l : List St) (lv : Value) (scope : List ByteArray) (sv : Value) (ahead : List TreeP.Fn) (av : Value) (w : World), wSs l ≤ n → n ≤ 1048576 → Lies w 14 lv (l.map St.cells) → St.Ins w l → Names w sv scope → scope.length + n ≤ 1048576 → Ahead w av ahead →
  Calls Tryz.prog 34 #[lv, sv, av] w (StPost w (stmtsN (scope.map bs) ahead l) (behindA scope l)) := by
 intro n
 induction n using Nat.strongRecOn with
 | ind n ih =>
  intro l lv scope sv ahead av w hw hn hl hin hsc hsn hah
  have hlen := wSs_len l
  obtain ⟨p, cap, rfl, hcap, hx⟩ := id hl
  rw [List.length_map] at *
  obtain ⟨R, hR⟩ : ∃ R, stmtsN (scope.map bs) ahead l = R := ⟨_, rfl⟩
  obtain ⟨BB, hBB⟩ : ∃ BB, behindA scope l = BB := ⟨_, rfl⟩
  rw [hR, hBB]
  generalize hL : l.length = L at *
  have HS := hid hR
  have HBB := hid hBB
  have HL := hid hL
  have HX := hid hl
  have HI := hid hin
  have HA := hid hah
  have HN0 := hid hsc
  clear hx hL hl hin hR hah hsc hBB
  go_enter Tryz.func34, Tryz.ntmps34
  go_wp2_with fail
  go_loopg [1, 8] L (fun gf u v wx => ∃ (i : Nat) (sc : List ByteArray) (su : Value), u = su ∧ v = .int .i64 (i : Int) ∧ i ≤ L ∧ L ≤ i + gf ∧ sc.length + wSs (l.drop i) ≤ 1048576 ∧ Hid (Names wx su sc) ∧ Hid (R = stmtsN (sc.map bs) ahead (l.drop i)) ∧ Hid (BB = behindA sc (l.drop i)) ∧ Hid (Below w.heap.size w wx))
  case atStart => exact ⟨0, scope, sv, rfl, rfl, by omega, by omega, by rw [List.drop_zero]; omega, HN0, hid (by rw [← HS.out]; rfl), hid (by rw [← HBB.out]; rfl), hid (Below.refl _ _)⟩
  case round =>
   obtain ⟨i, sc, _, rfl, rfl, hi, hg, hscl, HN, HR, HBi, HB⟩ := hrel
   clear HS HBB HN0
   by_cases hlt : i < L
   ·obtain ⟨t', ht⟩ : ∃ t', l[i]? = some t' := ⟨l[i]'(by rw [HL.out]; exact hlt), List.getElem?_eq_getElem _⟩
    obtain ⟨b, off, cap', e, _, hx⟩ := Lies.at (HX.out.keep (Keeps.of_below HB.out)) (i := i) (by rw [List.length_map, HL.out]; exact hlt)
    injection e with e1 e2 e3
    subst e1
    clear e2 e3
    have hx' : ∀ (j : Nat) (u : Value), t'.cells[j]? = some u → wr.cell? ⟨b, off + i * 14 + j, none⟩ = some u := hx i t'.cells (by rw [List.getElem?_map, ht]; rfl)
    have hws := wSs_get l i t' ht
    rw [show wSs (l.drop i) = wS t' + wSs (l.drop (i + 1)) by rw [drop_cons ht, wSs]] at hscl
    have hin' := St.In.keep (Keeps.of_below HB.out) t' ((St.ins_iff w l).1 HI.out t' (List.mem_of_getElem? ht))
    have hz := stSize t'
    have ho := st_ones hin'
    unfold Ones at ho
    have hr1 : R = (stmtN (sc.map bs) ahead t' && stmtsN ((behindS1 sc t').map bs) ahead (l.drop (i + 1))) := by rw [HR.out, drop_cons ht, stmtsN_cons, behindS1_bs]
    have hr2 : BB = behindA (behindS1 sc t') (l.drop (i + 1)) := by rw [HBi.out, drop_cons ht, behindA]
    have HA1 := hid (HA.out.keep (Keeps.of_below HB.out))
    have hb2 : Below wr.heap.size wr ((wr.alloc (.cells #[.int .i64 0, .string ⟨#[]⟩, .int .i64 0, .int .i64 0, .string ⟨#[]⟩, .bool false, .slice none 0 0, .int .i64 0, .int .i64 0, .string ⟨#[]⟩, .bool false, .slice none 0 0, .slice none 0 0, .slice none 0 0] 68 (0, 0))).setRow wr.heap.size t'.cells.toArray) := rowed_below' _ _ _
    have hX2 : BoxAt ((wr.alloc (.cells #[.int .i64 0, .string ⟨#[]⟩, .int .i64 0, .int .i64 0, .string ⟨#[]⟩, .bool false, .slice none 0 0, .int .i64 0, .int .i64 0, .string ⟨#[]⟩, .bool false, .slice none 0 0, .slice none 0 0, .slice none 0 0] 68 (0, 0))).setRow wr.heap.size t'.cells.toArray) wr.heap.size t'.cells := rowed_box' _ _ _ _
    have HXX := hid hx'
    have ZF := hid hz
    have ZA : Hid ((Tryz.prog.info? 68).map (·.size) = some t'.cells.toArray.size) := hid (by rw [List.size_toArray]; exact hz)
    have ZO : Hid ((#[.int .i64 0, .string ⟨#[]⟩, .int .i64 0, .int .i64 0, .string ⟨#[]⟩, .bool false, .slice none 0 0, .int .i64 0, .int .i64 0, .string ⟨#[]⟩, .bool false, .slice none 0 0, .slice none 0 0, .slice none 0 0] : Array Value).size = t'.cells.toArray.size) := hid (by
     rw [show (Tryz.prog.info? 68).map (·.size) = some 14 by kernel_rfl] at hz
     exact Option.some.inj hz)
    have H1C := hid ho
    obtain ⟨k, name, ⟨pk, pn, ps, pm, pv, pks⟩, ⟨ek, en, es, em, ev, eks⟩, tv, thn, lv2, els⟩ := t'
    rw [wS] at hws hscl
    rw [St.In] at hin'
    obtain ⟨hp, he, htl, hts, hel, hes⟩ := hin'
    have hkeep : ∀ {W : World}, Below wr.heap.size wr W → Keeps wr W := fun h => Keeps.of_below h
    have CT := hid (fun (W : World) (h : Below wr.heap.size wr W) => ih (wSs thn) (by omega) thn tv sc u1 ahead av W (Nat.le_refl _) (by omega) (htl.keep (hkeep h)) (St.Ins.keep (hkeep h) _ hts) (HN.out.keep (hkeep h)) (by omega) (HA1.out.keep (hkeep h)))
    have CL := hid (fun (W : World) (h : Below wr.heap.size wr W) => ih (wSs els) (by omega) els lv2 sc u1 ahead av W (Nat.le_refl _) (by omega) (hel.keep (hkeep h)) (St.Ins.keep (hkeep h) _ hes) (HN.out.keep (hkeep h)) (by omega) (HA1.out.keep (hkeep h)))
    have CE := hid (fun (W : World) (h : Below wr.heap.size wr W) => rExpr_any _ (.mk ek en es em ev eks) sc u1 ahead av W (Nat.le_refl _) (by omega) (Ex.In.keep (hkeep h) _ he) (HN.out.keep (hkeep h)) (HA1.out.keep (hkeep h)))
    have CP := hid (fun (W : World) (h : Below wr.heap.size wr W) => rExpr_any _ (.mk pk pn ps pm pv pks) sc u1 ahead av W (Nat.le_refl _) (by omega) (Ex.In.keep (hkeep h) _ hp) (HN.out.keep (hkeep h)) (HA1.out.keep (hkeep h)))
    have CI := hid (fun (W : World) (h : Below wr.heap.size wr W) => rIn_any name sc u1 W HN.out.len (HN.out.lies.keep (hkeep h)))
    simp only [Ex.val_mk] at CE CP
    have hq : stmtN (sc.map bs) ahead (.mk k name (.mk pk pn ps pm pv pks) (.mk ek en es em ev eks) tv thn lv2 els) = ((exprN (sc.map bs) ahead (.mk ek en es em ev eks) && exprN (sc.map bs) ahead (.mk pk pn ps pm pv pks) && stmtsN (sc.map bs) ahead thn && stmtsN (sc.map bs) ahead els) && !(k == 1 && decide (0 < cntN (bs name) (sc.map bs)))) := by rw [stmtN]
    rw [hq] at hr1
    have hsb : behindS1 sc (.mk k name (.mk pk pn ps pm pv pks) (.mk ek en es em ev eks) tv thn lv2 els) = if k = 1 then sc ++ [name] else sc := rfl
    rw [hsb] at hr1 hr2
    generalize behindA sc thn = B1 at *
    generalize behindA sc els = B2 at *
    generalize stmtsN (sc.map bs) ahead thn = q1 at *
    generalize stmtsN (sc.map bs) ahead els = q2 at *
    generalize exprN (sc.map bs) ahead (.mk ek en es em ev eks) = q3 at *
    generalize exprN (sc.map bs) ahead (.mk pk pn ps pm pv pks) = q4 at *
    generalize cntN (bs name) (sc.map bs) = cn at *
    have HR1 := hid hr1
    have HR2 := hid hr2
    have H0 := hid hb2
    have X0 := hid hX2
    clear hx hx' ht hz ho hb2 hX2 hr1 hr2 hq hsb ih hp he htl hts hel hes hkeep HR HBi hws
    have d12 := box_get X0.out (j := 12) rfl
    go_wp2_with (first | (with_reducible refine wpList_load_at (o := ⟨some 23, _, _, _, _, _⟩) rfl _ _ rfl b (off + i * 14) rfl (St.mk k name (.mk pk pn ps pm pv pks) (.mk ek en es em ev eks) tv thn lv2 els).cells _ HXX.out Tryz.underlying68 rfl ZF.out ?_) | (with_reducible refine wpList_store_row (o := ⟨none, _, _, _, _, _⟩) rfl _ _ _ rfl wr.heap.size (St.mk k name (.mk pk pn ps pm pv pks) (.mk ek en es em ev eks) tv thn lv2 els).cells.toArray rfl rfl _ _ (heap_alloc_new _ _) ZA.out ZO.out H1C.out ?_))
    refine (CT.out _ H0.out).mono ?_
    rintro e W1 ⟨v1, rfl, hb1, hn1⟩
    have H1 := hid (H0.out.trans (hb1.mono H0.out.size))
    have X1 := hid (X0.out.later hb1)
    clear d12 hb1 hn1 X0 H0 CT
    have d13 := box_get X1.out (j := 13) rfl
    go_wp2_with fail
    refine (CL.out _ H1.out).mono ?_
    rintro e W2 ⟨v2, rfl, hb2, hn2⟩
    have H2 := hid (H1.out.trans (hb2.mono H1.out.size))
    have X2 := hid (X1.out.later hb2)
    clear d13 hb2 hn2 X1 H1 CL
    have d7 := box_get X2.out (j := 7) rfl
    have d8 := box_get X2.out (j := 8) rfl
    have d9 := box_get X2.out (j := 9) rfl
    have d10 := box_get X2.out (j := 10) rfl
    have d11 := box_get X2.out (j := 11) rfl
    go_wp2_with fail
    refine (CE.out _ H2.out).mono ?_
    rintro e W3 ⟨rfl, hb3⟩
    have H3 := hid (H2.out.trans (hb3.mono H2.out.size))
    have X3 := hid (X2.out.later hb3)
    clear d7 d8 d9 d10 d11 hb3 X2 H2 CE
    have HBE : Hid (∀ W : World, Below wr.heap.size wr W → Below w.heap.size w W) := hid (fun W h => HB.out.trans (h.mono HB.out.size))
    cases q3 with
    | false =>
     have K : R = false := by rw [HR1.out]; rfl
     subst K
     go_wp2_with fail
     go_ret2
     exact ⟨_, rfl, HBE.out _ H3.out, fun h => by cases h⟩
    | true =>
     have d2 := box_get X3.out (j := 2) rfl
     have d3 := box_get X3.out (j := 3) rfl
     have d4 := box_get X3.out (j := 4) rfl
     have d5 := box_get X3.out (j := 5) rfl
     have d6 := box_get X3.out (j := 6) rfl
     go_wp2_with fail
     refine (CP.out _ H3.out).mono ?_
     rintro e W4 ⟨rfl, hb4⟩
     have H4 := hid (H3.out.trans (hb4.mono H3.out.size))
     have X4 := hid (X3.out.later hb4)
     clear d2 d3 d4 d5 d6 hb4 X3 H3 CP
     by_cases hall : q4 = true ∧ q1 = true ∧ q2 = true
     ·obtain ⟨rfl, rfl, rfl⟩ := hall
      have d0 := box_get X4.out (j := 0) rfl
      have d1 := box_get X4.out (j := 1) rfl
      by_cases hk1 : k = 1
      ·subst hk1
       have C1 := hid (CI.out _ H4.out)
       by_cases hcn : 0 < cn
       ·have K : R = false := by rw [HR1.out]; simp [hcn]
        subst K
        go_wp2_with fail
        refine C1.out.mono ?_
        rintro e W5 ⟨rfl, rfl⟩
        go_wp2_with fail
        go_ret2
        exact ⟨_, rfl, HBE.out _ H4.out, fun h => by cases h⟩
       ·have K1 : Hid (R = stmtsN ((sc ++ [name]).map bs) ahead (l.drop (i + 1))) := hid (by rw [HR1.out]; simp [hcn])
        have K2 : Hid (BB = behindA (sc ++ [name]) (l.drop (i + 1))) := hid (by rw [HR2.out]; simp)
        clear HR1 HR2
        go_wp2_with fail
        refine C1.out.mono ?_
        rintro e W5 ⟨rfl, rfl⟩
        clear C1 CI X4 HXX ZF ZA ZO H1C HX HI
        go_wp2_with fail
        have HN4 := hid (HN.out.keep (Keeps.of_below H4.out))
        have hsc : sc.length + 1 ≤ 4194304 := by omega
        have E1 : Hid (OwnN (W4.alloc (.cells #[] 9)).drew W4.heap.size (.slice (some ⟨W4.heap.size, 0, none⟩) 0 0) []) := hid (own_empty W4 _ (Nat.le_refl _))
        have b1 : Below W4.heap.size W4 (W4.alloc (.cells #[] 9)).drew := ((Below.refl _ _).alloc (Nat.le_refl _) _).drew
        have b2 : Below W4.heap.size W4 ((W4.alloc (.cells #[] 9)).alloc (.cells #[.string name] 9)).drew := (((Below.refl _ _).alloc (Nat.le_refl _) _).alloc (by simp) _).drew
        have b3 : Below W4.heap.size W4 ((W4.alloc (.cells #[.string name] 9)).alloc (.cells #[] 9)).drew := (((Below.refl _ _).alloc (Nat.le_refl _) _).alloc (by simp) _).drew
        have E2 : Hid (OwnN ((W4.alloc (.cells #[] 9)).alloc (.cells #[.string name] 9)).drew W4.heap.size (.slice (some ⟨W4.heap.size, 0, none⟩) 0 0) []) := hid ((own_empty W4 _ (Nat.le_refl _)).below (((Below.refl _ _).alloc (Nat.le_refl _) _).drew))
        have E3 : Hid (OwnN ((W4.alloc (.cells #[.string name] 9)).alloc (.cells #[] 9)).drew W4.heap.size (.slice (some ⟨W4.heap.size + 1, 0, none⟩) 0 0) []) := hid (by have := own_empty (W4.alloc (.cells #[.string name] 9)) W4.heap.size (by simp); rw [World.size_alloc] at this; exact this)
        have hlt4 : wr.heap.size < W4.heap.size := World.block_lt_of_cell? _ _ d1
        have D1 := hid (later b1 d1)
        have L1 := hid (HN4.out.lies.keep (Keeps.of_below b1))
        have L2 := hid (HN4.out.lies.keep (Keeps.of_below b2))
        have L3 := hid (HN4.out.lies.keep (Keeps.of_below b3))
        have c2 : ((W4.alloc (.cells #[] 9)).alloc (.cells #[.string name] 9)).drew.cell? ⟨W4.heap.size + 1, 0, none⟩ = some (.string name) := (by have := box_cell (W4.alloc (.cells #[] 9)) [.string name] 9 0 _ rfl; rw [World.size_alloc] at this; exact this)
        have c3 : ((W4.alloc (.cells #[.string name] 9)).alloc (.cells #[] 9)).drew.cell? ⟨W4.heap.size, 0, none⟩ = some (.string name) := later (w := W4.alloc (.cells #[.string name] 9)) (((Below.refl _ _).alloc (Nat.le_refl _) _).drew) (box_cell W4 [.string name] 9 0 _ rfl)
        have BB1 := hid b1
        have BB2 := hid b2
        have BB3 := hid b3
        have CC2 := hid c2
        have CC3 := hid c3
        have n0 : ([] : List ByteArray).length + sc.length ≤ 4194304 := by simp; omega
        have n1 : ([] ++ sc : List ByteArray).length + [name].length ≤ 4194304 := by simp; omega
        have N0 := hid n0
        have N1 := hid n1
        clear b1 b2 b3 c2 c3 n0 n1
        go_region_law (first
         | (refine step_append_since W4 (by rfl) _ _ (by rfl) (.slice (some ⟨W4.heap.size, 0, none⟩) 0 0) u1 [] sc (by rfl) (by rfl) E1.out L1.out N0.out BB1.out ?_; intro va wa ha hba hka; have HA1 := hid ha; have HB1 := hid hba; have HO := hid (ha.below ((Below.refl wa.heap.size wa).alloc (Nat.le_refl _) (.cells #[.string name] 9))); have HBO := hid (hba.alloc hba.size (.cells #[.string name] 9)); have HCO := hid (box_cell wa [.string name] 9 0 _ rfl); have k1 := hka _ _ _ (by simp [Value.ownBlock]; omega) D1.out; clear hka)
         | (refine step_append_since W4 (by rfl) _ _ (by rfl) (.slice (some ⟨W4.heap.size, 0, none⟩) 0 0) u1 [] sc (by rfl) (by rfl) E2.out L2.out N0.out BB2.out ?_; intro va wa ha hba hka; have HO := hid ha; have HBO := hid hba; have HCO := hid (hka _ _ _ (by simp [Value.ownBlock]) CC2.out); clear hka)
         | (refine step_append_since W4 (by rfl) _ _ (by rfl) (.slice (some ⟨W4.heap.size + 1, 0, none⟩) 0 0) u1 [] sc (by rfl) (by rfl) E3.out L3.out N0.out BB3.out ?_; intro va wa ha hba hka; have HO := hid ha; have HBO := hid hba; have HCO := hid (hka _ _ _ (by simp [Value.ownBlock]) CC3.out); clear hka)
         | (refine step_append_since W4 (by rfl) _ _ (by rfl) va _ ([] ++ sc) [name] (by rfl) (by rfl) HO.out (one_lies (Nat.le_refl _) HCO.out) N1.out HBO.out ?_; intro vb wb hb hbb hkb; have HOW := hid hb; have HBW := hid hbb; clear hkb))
        all_goals (
         have HN5 := hid (show Names wb vb (sc ++ [name]) from HOW.out.names (by simp; omega))
         have HB5 := hid (HBE.out _ (H4.out.trans (HBW.out.mono H4.out.size)))
         go_wp2_with fail
         go_roundg (gk - 1)
         case measure => omega
         case rel => exact ⟨i + 1, sc ++ [name], _, rfl, by go_num, by omega, by omega, by rw [List.length_append, List.length_singleton]; omega, HN5, K1, K2, HB5⟩)
      ·have K1 : Hid (R = stmtsN (sc.map bs) ahead (l.drop (i + 1))) := hid (by rw [HR1.out]; simp [hk1])
       have K2 : Hid (BB = behindA sc (l.drop (i + 1))) := hid (by rw [HR2.out, if_neg hk1])
       have HN4 := hid (HN.out.keep (Keeps.of_below H4.out))
       have HB4 := hid (HBE.out _ H4.out)
       clear HR1 HR2
       go_wp2_with fail
       go_roundg (gk - 1)
       case measure => omega
       case rel => exact ⟨i + 1, sc, _, rfl, by go_num, by omega, by omega, by omega, HN4, K1, K2, HB4⟩
     ·have K : R = false := by
       rw [HR1.out]
       cases q4 <;> cases q1 <;> cases q2 <;> simp at hall ⊢
      subst K
      cases q4
      ·go_wp2_with fail
       go_ret2
       exact ⟨_, rfl, HBE.out _ H4.out, fun h => by cases h⟩
      ·cases q1
       ·go_wp2_with fail
        go_ret2
        exact ⟨_, rfl, HBE.out _ H4.out, fun h => by cases h⟩
       ·cases q2
        ·go_wp2_with fail
         go_ret2
         exact ⟨_, rfl, HBE.out _ H4.out, fun h => by cases h⟩
        ·exact absurd ⟨rfl, rfl, rfl⟩ hall
   ·obtain rfl : i = L := by omega
    have K : R = true := by rw [HR.out, ← HL.out, List.drop_length]; rfl
    have K2 : BB = sc := by rw [HBi.out, ← HL.out, List.drop_length]; rfl
    subst K K2
    go_wp2_with fail
    go_ret2
    exact ⟨_, rfl, HB.out, fun _ => HN.out⟩
end Go.Proofs.YtemflcojebanlaaGreatDoor.NmC
