/- Texts joined: TreeRI, TreeRK. -/
import Derived.Test.YtemflcojebanlaaGreatDoorJ09
/- Contracts of lienbookref02's depths of expressions and statements. -/
namespace Go.Proofs.YtemflcojebanlaaGreatDoor.TreeC
open Go Go.RowKit Go.Lib Go.Sort LexP TreeP LexC

theorem str_mk (k n : Int) (s : ByteArray) (m : Bool) (v : Value) (l : List Ex) : (Ex.mk k n s m v l).str = strK k (bs s) := rfl
theorem kids_mk (k n : Int) (s : ByteArray) (m : Bool) (v : Value) (l : List Ex) : (Ex.mk k n s m v l).kids = l := rfl
/-- how deep a kid is, with its parentheses -/
def deepK (o : Bool) (s i : Nat) (e : Ex) : Nat := deepE e + if o = true ∧ i < 2 ∧ asideB s e.str i = true then 1 else 0
theorem deepEk_drop (o : Bool) (s : Nat) {l : List Ex} {i : Nat} {e : Ex} (h : l[i]? = some e) : deepEk o s i (l.drop i) = max (deepK o s i e) (deepEk o s (i + 1) (l.drop (i + 1))) := by
 rw [drop_cons h, deepEk]; rfl
mutual
theorem deepE_le : ∀ t : Ex, deepE t ≤ wE t
 | .mk k num name mt v kids => by
  have := deepEk_le (k == 8) (strK k (bs name)) 0 kids
  rw [deepE, wE]
  split <;> omega
theorem deepEk_le : ∀ (o : Bool) (s i : Nat) (l : List Ex), deepEk o s i l ≤ wEs l
 | _, _, _, [] => by simp [deepEk]
 | o, s, i, t :: ts => by
  have h1 := deepE_lt t
  have h2 := deepEk_le o s (i + 1) ts
  rw [deepEk, wEs]
  split <;> omega
theorem deepE_lt : ∀ t : Ex, deepE t + 1 ≤ wE t
 | .mk k num name mt v kids => by
  have := deepEk_le (k == 8) (strK k (bs name)) 0 kids
  rw [deepE, wE]
  split <;> omega
end
set_option maxHeartbeats 4000000 in
set_option maxRecDepth 100000 in
theorem rdeepE_any : ∀ (n : Nat) (t : Ex) (w : World), wE t ≤ n → n ≤ 1048576 → t.In w → Calls Tryz.prog 57 #[t.val] w fun r w' => r = .returned (.int .i64 (deepE t : Int)) ∧ Below w.heap.size w w' := by
 intro n
 induction n with
 | zero => intro t w h; obtain ⟨k, num, name, mt, v, kids⟩ := t; rw [wE] at h; omega
 | succ n ih =>
  intro t w hw hn hin
  have CA : Hid (∀ (W : World) (j : Nat) (u : Ex), Keeps w W → t.kids[j]? = some u → Calls Tryz.prog 91 #[.agg t.cells.toArray, .int .i64 (j : Int)] W fun r w' => r = .returned (.bool (asideB t.str u.str j)) ∧ Below W.heap.size W w') :=
   hid fun W j u k hu => raside_any t W j u (Ex.In.keep k _ hin) hu (by omega)
  have EZ := hid (exSize t)
  obtain ⟨k, num, name, mt, v, kids⟩ := t
  have hdk := deepEk_le (k == 8) (strK k (bs name)) 0 kids
  rw [wE] at hw
  rw [Ex.In] at hin
  obtain ⟨_, hl, hk⟩ := hin
  have hlen := wEs_len kids
  obtain ⟨R, hR⟩ : ∃ R, deepE (.mk k num name mt v kids) = R := ⟨_, rfl⟩
  rw [hR]
  rw [deepE] at hR
  simp only [kids_mk, str_mk] at CA
  have yk : (Ex.mk k num name mt v kids).cells[4]? = some v := rfl
  have y0 : (Ex.mk k num name mt v kids).cells[0]? = some (.int .i64 k) := rfl
  rw [Ex.val]
  generalize (Ex.mk k num name mt v kids).cells = cs at *
  generalize strK k (bs name) = s at *
  have hl' := hl
  obtain ⟨p, cap, rfl, hcap, hx⟩ := hl
  rw [List.length_map] at *
  generalize hL : kids.length = L at *
  have HS := hid hR
  have HL := hid hL
  have HK := hid hk
  have HX := hid hl'
  have YK := hid yk
  clear hx hk hL hl' hR yk
  have B0 : Below w.heap.size w (w.alloc (.cells cs.toArray 40 (0, 0))) := (Below.refl _ _).alloc (Nat.le_refl _) _
  have X0 : BoxAt (w.alloc (.cells cs.toArray 40 (0, 0))) w.heap.size cs := BoxAt.new _ _ _
  have d0 := box_get X0 y0
  have Y0 := hid y0
  have X0 := hid X0
  have B0 := hid B0
  clear y0
  by_cases hk2 : k < 3
  ·clear ih
   go_enter Tryz.func57, Tryz.ntmps57
   go_wp2_with fail
   go_ret
   exact ⟨ret_int (by rw [← HS.out, if_pos (.inl hk2)]; rfl), B0.out⟩
  by_cases hk4 : 9 < k
  ·clear ih
   go_enter Tryz.func57, Tryz.ntmps57
   go_wp2_with fail
   go_ret
   exact ⟨ret_int (by rw [← HS.out, if_pos (.inr hk4)]; rfl), B0.out⟩
  have HR : Hid (deepEk (k == 8) s 0 kids + 1 = R) := hid (by rw [← HS.out, if_neg (by omega)])
  clear HS
  obtain ⟨o, ho⟩ : ∃ o, (k == 8) = o := ⟨_, rfl⟩
  rw [ho] at HR hdk
  have HO := hid ho
  clear ho
  go_enter Tryz.func57, Tryz.ntmps57
  go_wp2_with fail
  have X0 := X0.out
  generalize w.alloc _ = W1 at *
  have X0 := hid X0
  go_loopg [3, 4, 5] L (fun gf u v x wx => ∃ i a : Nat, u = .int .i64 (a : Int) ∧ v = .int .i64 (i : Int) ∧ i ≤ L ∧ L ≤ i + gf ∧ a ≤ 1048576 ∧ Hid (max a (deepEk o s i (kids.drop i)) = deepEk o s 0 kids) ∧ Hid (Below W1.heap.size W1 wx) ∧ Hid (∃ y, x = y))
  case atStart => exact ⟨0, 0, rfl, rfl, by omega, by omega, by omega, hid (by rw [List.drop_zero]; omega), hid (Below.refl _ _), hid ⟨_, rfl⟩⟩
  case round =>
   obtain ⟨i, a, rfl, rfl, hi, hg, ha, HA, HB, _⟩ := hrel
   have hbw := hid (B0.out.trans (HB.out.mono B0.out.size))
   have XR := hid (X0.out.later HB.out)
   have d4 := box_get XR.out YK.out
   clear d0
   by_cases hlt : i < L
   ·obtain ⟨t', ht⟩ : ∃ t', kids[i]? = some t' := ⟨kids[i]'(by rw [HL.out]; exact hlt), List.getElem?_eq_getElem _⟩
    obtain ⟨b, off, cap', e, _, hx⟩ := Lies.at (HX.out.keep (Keeps.of_below hbw.out)) (i := i) (by rw [List.length_map, HL.out]; exact hlt)
    injection e with e1 e2 e3
    subst e1
    clear e2 e3
    have hx' : ∀ (j : Nat) (u : Value), t'.cells[j]? = some u → wr.cell? ⟨b, off + i * 5 + j, none⟩ = some u := hx i t'.cells (by rw [List.getElem?_map, ht]; rfl)
    have hin' : t'.In wr := Ex.In.keep (Keeps.of_below hbw.out) t' ((Ex.ins_iff w kids).1 HK.out t' (List.mem_of_getElem? ht))
    have hws := wEs_get kids i t' ht
    have hle := deepE_lt t'
    have K0 := HA.out
    rw [deepEk_drop o s ht] at K0
    have K : Hid (max (max a (deepK o s i t')) (deepEk o s (i + 1) (kids.drop (i + 1))) = deepEk o s 0 kids) := hid (by rw [← K0]; omega)
    have HZ := hid (exSize t')
    have cI := ih t' wr (by omega) (by omega) hin'
    rw [Ex.val] at cI
    have CI := hid cI
    have HC := hid hx'
    have cA := fun W (h : Keeps w W) => CA.out W i t' h ht
    have CA' := hid cA
    have hdd : deepK o s i t' = deepE t' + if o = true ∧ i < 2 ∧ asideB s t'.str i = true then 1 else 0 := rfl
    generalize deepK o s i t' = m at *
    generalize deepE t' = q at *
    generalize asideB s t'.str i = asd at *
    have HD := hid hdd
    clear hx hx' ht hin' ih cI K0 cA CA hdd
    go_wp2_with (with_reducible refine wpList_load_at (o := ⟨some 25, _, _, _, _, _⟩) rfl _ _ rfl b (off + i * 5) rfl t'.cells _ HC.out Tryz.underlying40 rfl HZ.out ?_)
    with_reducible refine CI.out.mono ?_
    rintro e W2 ⟨rfl, hb2⟩
    have B2 := hid (HB.out.trans (hb2.mono HB.out.size))
    have X2 := hid (XR.out.later hb2)
    have d0 := box_get X2.out Y0.out
    clear hb2 d4
    have XE : ∀ (i : Nat) (u : Value), cs[i]? = some u → W2.cell? ⟨w.heap.size, 0 + i, none⟩ = some u := fun i u h => by rw [Nat.zero_add]; exact X2.out i u h
    have XE2 := hid XE
    clear XE
    have k8 := HO.out
    by_cases hk8 : k = 8
    ·subst hk8
     obtain rfl : o = true := by rw [← k8]; rfl
     clear k8
     by_cases hi2 : i < 2
     ·have hi2' : ((i : Int) < 2) := by omega
      have hi3 : decide ((i : Int) < 2) = true := by simpa using hi2'
      go_wp2_with (with_reducible refine wpList_load_at (o := ⟨some 35, _, _, _, _, _⟩) rfl _ _ rfl w.heap.size 0 rfl cs _ XE2.out Tryz.underlying40 rfl EZ.out ?_)
      with_reducible refine (CA'.out _ (Keeps.of_below (B0.out.trans (B2.out.mono B0.out.size)))).mono ?_
      rintro e W3 ⟨rfl, hb3⟩
      have B3 := hid (B2.out.trans (hb3.mono B2.out.size))
      clear hb3 d0
      cases asd
      ·have hm : Hid (m = q) := hid (by rw [HD.out]; simp)
       have CM := hid (fun W => rmore_any a q W)
       go_wp2_with fail
       with_reducible refine (CM.out _).mono ?_
       rintro e W4 ⟨rfl, rfl⟩
       go_wp2_with fail
       go_roundg (gk - 1)
       case measure => omega
       case rel => exact ⟨i + 1, max a q, rfl, by go_num, by omega, by omega, by omega, hid (by rw [← hm.out]; exact K.out), B3, hid ⟨_, rfl⟩⟩
      ·have hm : Hid (m = q + 1) := hid (by rw [HD.out]; simp [hi2])
       have CM := hid (fun W => rmore_any a (q + 1) W)
       go_wp2_with fail
       refine (CM.out _).mono ?_
       rintro e W4 ⟨rfl, rfl⟩
       go_wp2_with fail
       go_roundg (gk - 1)
       case measure => omega
       case rel => exact ⟨i + 1, max a (q + 1), rfl, by go_num, by omega, by omega, by omega, hid (by rw [← hm.out]; exact K.out), B3, hid ⟨_, rfl⟩⟩
     ·have hm : Hid (m = q) := hid (by rw [HD.out]; simp [hi2])
      have CM := hid (fun W => rmore_any a q W)
      go_wp2_with fail
      with_reducible refine (CM.out _).mono ?_
      rintro e W4 ⟨rfl, rfl⟩
      go_wp2_with fail
      go_roundg (gk - 1)
      case measure => omega
      case rel => exact ⟨i + 1, max a q, rfl, by go_num, by omega, by omega, by omega, hid (by rw [← hm.out]; exact K.out), B2, hid ⟨_, rfl⟩⟩
    ·have hf : o = false := by rw [← k8]; simp [hk8]
     subst hf
     have hm : Hid (m = q) := hid (by rw [HD.out]; simp)
     have CM := hid (fun W => rmore_any a q W)
     go_wp2_with fail
     with_reducible refine (CM.out _).mono ?_
     rintro e W4 ⟨rfl, rfl⟩
     go_wp2_with fail
     go_roundg (gk - 1)
     case measure => omega
     case rel => exact ⟨i + 1, max a q, rfl, by go_num, by omega, by omega, by omega, hid (by rw [← hm.out]; exact K.out), B2, hid ⟨_, rfl⟩⟩
   ·obtain rfl : i = L := by omega
    have K : Hid (a + 1 = R) := hid (by
     have h := HA.out
     rw [← HL.out, List.drop_length] at h
     simp only [deepEk] at h
     rw [← HR.out, ← h]; omega)
    clear ih
    go_wp2_with fail
    go_ret
    exact ⟨ret_int (by rw [← K.out]; rfl), hbw.out⟩

theorem deepSs_snoc (l : List St) (i : Nat) (t : St) (h : l[i]? = some t) : deepSs (l.take (i + 1)) = max (deepSs (l.take i)) (deepS t) := by
 induction l generalizing i with
 | nil => simp at h
 | cons x l ih =>
  cases i with
  | zero => simp at h; subst h; simp [deepSs]
  | succ i => rw [List.take_succ_cons, List.take_succ_cons, deepSs, deepSs, ih i (by simpa using h)]; omega
mutual
theorem deepS_le : ∀ s : St, deepS s ≤ wS s
 | .mk k name place expr tv thn ev els => by
  have h1 := deepSs_le thn
  have h2 := deepSs_le els
  have h3 := deepE_le place
  have h4 := deepE_le expr
  rw [deepS, wS]
  omega
theorem deepSs_le : ∀ l : List St, deepSs l ≤ wSs l
 | [] => by simp [deepSs]
 | t :: ts => by
  have h1 := deepS_le t
  have h2 := deepSs_le ts
  rw [deepSs, wSs]
  omega
end
set_option maxHeartbeats 4000000 in
set_option maxRecDepth 100000 in
theorem rdeepSs_any : ∀ (n : Nat) (l : List St) (w : World) (v : Value), wSs l ≤ n → n ≤ 1048576 → Lies w 14 v (l.map St.cells) → St.Ins w l →
  Calls Tryz.prog 56 #[v] w fun r w' => r = .returned (.int .i64 (deepSs l : Int)) ∧ Below w.heap.size w w' := by
 intro n
 induction n using Nat.strongRecOn with
 | ind n ih =>
  intro l w v hw hn hl hin
  have hlen := wSs_len l
  obtain ⟨p, cap, rfl, hcap, hx⟩ := id hl
  rw [List.length_map] at *
  obtain ⟨R, hR⟩ : ∃ R, deepSs l = R := ⟨_, rfl⟩
  rw [hR]
  have hLR := deepSs_le l
  generalize hL : l.length = L at *
  have HR := hid hR
  have HL := hid hL
  have HX := hid hl
  have HI := hid hin
  clear hx hL hl hin hR
  go_enter Tryz.func56, Tryz.ntmps56
  go_wp2_with fail
  go_loopg [3, 4] L (fun gf u v wx => ∃ i a : Nat, u = .int .i64 (a : Int) ∧ v = .int .i64 (i : Int) ∧ i ≤ L ∧ L ≤ i + gf ∧ a ≤ 1048576 ∧ Hid (a = deepSs (l.take i)) ∧ Hid (Below w.heap.size w wx))
  case atStart => exact ⟨0, 0, rfl, rfl, by omega, by omega, by omega, hid (by simp [deepSs]), hid (Below.refl _ _)⟩
  case round =>
   obtain ⟨i, a, rfl, rfl, hi, hg, ha, HA, HB⟩ := hrel
   by_cases hlt : i < L
   ·obtain ⟨t', ht⟩ : ∃ t', l[i]? = some t' := ⟨l[i]'(by rw [HL.out]; exact hlt), List.getElem?_eq_getElem _⟩
    obtain ⟨b, off, cap', e, _, hx⟩ := Lies.at (HX.out.keep (Keeps.of_below HB.out)) (i := i) (by rw [List.length_map, HL.out]; exact hlt)
    injection e with e1 e2 e3
    subst e1
    clear e2 e3
    have hx' : ∀ (j : Nat) (u : Value), t'.cells[j]? = some u → wr.cell? ⟨b, off + i * 14 + j, none⟩ = some u := hx i t'.cells (by rw [List.getElem?_map, ht]; rfl)
    have hsn := deepSs_snoc l i t' ht
    have hws := wSs_get l i t' ht
    have hin' := St.In.keep (Keeps.of_below HB.out) t' ((St.ins_iff w l).1 HI.out t' (List.mem_of_getElem? ht))
    obtain ⟨k, name, place, expr, tv, thn, ev, els⟩ := t'
    rw [wS] at hws
    rw [St.In] at hin'
    obtain ⟨hp, he, htl, hts, hel, hes⟩ := hin'
    have y12 : wr.cell? ⟨b, off + i * 14 + 12, none⟩ = some tv := hx' 12 _ (St.cells_tv ..)
    have y13 : wr.cell? ⟨b, off + i * 14 + 13, none⟩ = some ev := hx' 13 _ (St.cells_ev ..)
    have P1 := hid (reg_cells (St.at_place hx'))
    have P2 := hid (reg_cells (St.at_expr hx'))
    have Z1 := hid (exSize place)
    have Z2 := hid (exSize expr)
    have q1 := deepE_le place
    have q2 := deepE_le expr
    have q3 := deepSs_le thn
    have q4 := deepSs_le els
    have c1 := fun d os => Calls.regrown_of (rdeepE_any (wE place) place (grow (redrawn wr d) os) (Nat.le_refl _) (by omega) (Ex.In.keep (Keeps.of_below (below_regrown wr d os)) _ hp))
    have c2 := fun d os => Calls.regrown_of (rdeepE_any (wE expr) expr (grow (redrawn wr d) os) (Nat.le_refl _) (by omega) (Ex.In.keep (Keeps.of_below (below_regrown wr d os)) _ he))
    have c3 := fun dq osq d os => Calls.regrown_of (ih (wSs thn) (by omega) thn (grow (redrawn (grow (redrawn wr dq) osq) d) os) tv (Nat.le_refl _) (by omega) (htl.keep ((Keeps.of_below (below_regrown wr dq osq)).trans (Keeps.of_below (below_regrown _ d os)))) (St.Ins.keep ((Keeps.of_below (below_regrown wr dq osq)).trans (Keeps.of_below (below_regrown _ d os))) thn hts))
    have c4 := fun dq osq d os => Calls.regrown_of (ih (wSs els) (by omega) els (grow (redrawn (grow (redrawn wr dq) osq) d) os) ev (Nat.le_refl _) (by omega) (hel.keep ((Keeps.of_below (below_regrown wr dq osq)).trans (Keeps.of_below (below_regrown _ d os)))) (St.Ins.keep ((Keeps.of_below (below_regrown wr dq osq)).trans (Keeps.of_below (below_regrown _ d os))) els hes))
    simp only [Ex.val] at c1 c2
    rw [deepS] at hsn
    generalize deepE place = T1 at *
    generalize deepE expr = T2 at *
    generalize deepSs thn = T3 at *
    generalize deepSs els = T4 at *
    have m1 := fun d os => Calls.regrown_of ((rmore_any T1 T2 (grow (redrawn wr d) os)).mono fun e w' ⟨h1, h2⟩ => ⟨h1, below_of_eq h2⟩)
    have MM := hid (fun (a b : Nat) (W : World) d os => Calls.regrown_of ((rmore_any a b (grow (redrawn W d) os)).mono fun e w' ⟨h1, h2⟩ => ⟨h1, below_of_eq h2⟩))
    have C1 := hid c1
    have C2 := hid c2
    have C3 := hid c3
    have C4 := hid c4
    have M1 := hid m1
    have HN := hid hsn
    have Y12 := hid y12
    have Y13 := hid y13
    clear hx hx' ht c1 c2 c3 c4 m1 ih hp he htl hts hel hes y12 y13 hsn
    go_wp2_with fail
    refine wp_region_quiet_below (by kernel_rfl) (by kernel_rfl) ?_
    repeat (first | ((with_reducible refine wpQuiet_load_at (o := ⟨some 16, _, _, _, _, _⟩) rfl _ _ rfl b (off + i * 14 + 2) rfl place.cells _ P1.out Tryz.underlying40 rfl Z1.out ?_); simp only [Act.put, List.setIfInBounds_toArray, List.set_cons_zero, List.set_cons_succ]) | ((with_reducible refine wpQuiet_load_at (o := ⟨some 22, _, _, _, _, _⟩) rfl _ _ rfl b (off + i * 14 + 7) rfl expr.cells _ P2.out Tryz.underlying40 rfl Z2.out ?_); simp only [Act.put, List.setIfInBounds_toArray, List.set_cons_zero, List.set_cons_succ]) | go_big_quiet_step (first | (with_reducible exact C1.out _ _) | (with_reducible exact C2.out _ _) | (with_reducible exact M1.out _ _)))
    refine wpQuiet_nil ?_
    intro _ hw'
    obtain ⟨⟨dq, osq⟩, hw''⟩ := hw'
    subst hw''
    have HB1 := hid (HB.out.trans ((below_regrown wr dq osq).mono HB.out.size))
    have y12 := cell_regrown Y12.out dq osq
    have y13 := cell_regrown Y13.out dq osq
    have C3' := hid (C3.out dq osq)
    have C4' := hid (C4.out dq osq)
    clear C3 C4 P1 P2 C1 C2 M1 Y12 Y13 HB
    generalize grow (redrawn wr dq) osq = wq at *
    have k12 := cell_regrown y12
    have k13 := cell_regrown y13
    clear y12 y13
    have m2 := MM.out T3 T4 wq
    have m3 := MM.out (max T1 T2) (max T3 T4) wq
    have m4 : ∀ d os, Calls Tryz.prog 54 #[.int .i64 (a : Int), .int .i64 (1 + ((max (max T1 T2) (max T3 T4) : Nat) : Int))] (grow (redrawn wq d) os) fun e w'' => e = .returned (.int .i64 ((max a (1 + max (max T1 T2) (max T3 T4)) : Nat) : Int)) ∧ ∃ p : Regrown, w'' = grow (redrawn wq p.d) p.os := MM.out a (1 + max (max T1 T2) (max T3 T4)) wq
    have hm5 : max a (1 + max (max T1 T2) (max T3 T4)) ≤ 1048576 := by omega
    have hm3 : max (max T1 T2) (max T3 T4) ≤ 1048576 := by omega
    have hn5 : max a (1 + max (max T1 T2) (max T3 T4)) = deepSs (l.take (i + 1)) := by rw [HN.out, ← HA.out]
    generalize max a (1 + max (max T1 T2) (max T3 T4)) = m5 at *
    have HN5 := hid hn5
    clear hn5
    generalize max (max T1 T2) (max T3 T4) = mm at *
    generalize max T3 T4 = mb at *
    generalize max T1 T2 = ma at *
    have M2 := hid m2
    have M3 := hid m3
    have M4 := hid m4
    clear MM m2 m3 m4
    go_wp2_with fail
    refine wp_region_quiet_below (by kernel_rfl) (by kernel_rfl) ?_
    repeat (go_big_quiet_step (first | (with_reducible exact C3'.out _ _) | (with_reducible exact C4'.out _ _) | (with_reducible exact M2.out _ _) | (with_reducible exact M3.out _ _) | (with_reducible exact M4.out _ _)))
    refine wpQuiet_nil ?_
    intro _ hw'
    obtain ⟨⟨dq2, osq2⟩, hw''⟩ := hw'
    subst hw''
    have HB2 := hid (HB1.out.trans ((below_regrown wq dq2 osq2).mono HB1.out.size))
    go_wp2_with fail
    go_roundg (gk - 1)
    case measure => omega
    case rel => exact ⟨i + 1, m5, rfl, by go_num, by omega, by omega, by omega, HN5, HB2⟩
   ·obtain rfl : i = L := by omega
    clear ih
    go_wp2_with fail
    go_ret
    exact ⟨ret_nat (by rw [HA.out, ← HL.out, List.take_length, HR.out]), HB.out⟩
/- Contract of lienbookref02.Deep. -/

theorem fn_gives {f : TreeP.Fn} {j : Nat} {u : Value} (h : f.gives.cells[j]? = some u) : (TreeP.Fn.cells f)[3 + j]? = some u := by
 obtain ⟨a, b, b1, b2, b3, ⟨c1, c2, c3, c4, c5⟩, d1, d2, d3, d4, ⟨e1, e2, e3, e4, e5, e6⟩⟩ := f
 match j, h with
 | 0, h => exact h
 | 1, h => exact h
 | 2, h => exact h
 | 3, h => exact h
 | j + 4, h => simp [Ty.cells] at h
theorem fn_value {f : TreeP.Fn} {j : Nat} {u : Value} (h : f.value.cells[j]? = some u) : (TreeP.Fn.cells f)[9 + j]? = some u := by
 obtain ⟨a, b, b1, b2, b3, ⟨c1, c2, c3, c4, c5⟩, d1, d2, d3, d4, ⟨e1, e2, e3, e4, e5, e6⟩⟩ := f
 match j, h with
 | 0, h => exact h
 | 1, h => exact h
 | 2, h => exact h
 | 3, h => exact h
 | 4, h => exact h
 | j + 5, h => simp [Ex.cells] at h
theorem fn_one (f : TreeP.Fn) : (TreeP.Fn.cells f)[0]? = some (.string f.name) ∧ (TreeP.Fn.cells f)[1]? = some f.livesV ∧ (TreeP.Fn.cells f)[2]? = some f.parsV ∧ (TreeP.Fn.cells f)[7]? = some f.outsV ∧ (TreeP.Fn.cells f)[8]? = some f.bodyV := by
 obtain ⟨a, b, b1, b2, b3, ⟨c1, c2, c3, c4, c5⟩, d1, d2, d3, d4, ⟨e1, e2, e3, e4, e5, e6⟩⟩ := f
 exact ⟨rfl, rfl, rfl, rfl, rfl⟩
theorem pa_type {p : Pa} {j : Nat} {u : Value} (h : p.type.cells[j]? = some u) : (Pa.cells p)[1 + j]? = some u := by
 obtain ⟨a, ⟨c1, c2, c3, c4, c5⟩⟩ := p
 match j, h with
 | 0, h => exact h
 | 1, h => exact h
 | 2, h => exact h
 | 3, h => exact h
 | j + 4, h => simp [Ty.cells] at h
theorem deepPs_le : ∀ l : List Pa, deepPs l ≤ wPas l
 | [] => by simp [deepPs]
 | p :: ps => by
  have h1 := deepT_le p.type
  have h2 := deepPs_le ps
  rw [deepPs, wPas, wPa]
  omega
theorem deepF_le (f : TreeP.Fn) : deepF f ≤ wF f := by
 have h1 := deepPs_le f.pars
 have h2 := deepT_le f.gives
 have h3 := deepSs_le f.body
 have h4 := deepE_le f.value
 unfold deepF wF
 omega
theorem deepFs_le : ∀ l : List TreeP.Fn, deepFs l ≤ wFs l
 | [] => by simp [deepFs]
 | f :: fs => by
  have h1 := deepF_le f
  have h2 := deepFs_le fs
  rw [deepFs, wFs]
  omega
set_option maxHeartbeats 8000000 in
set_option maxRecDepth 100000 in
theorem rDeep_any (l : List TreeP.Fn) (w : World) (v : Value) (hw : wFs l ≤ 1048576) (hin : ProgIn w v l) :
  Calls Tryz.prog 31 #[v] w fun r w' => r = .returned (.int .i64 (deepFs l : Int)) ∧ Below w.heap.size w w' := by
 obtain ⟨hl, hI⟩ := hin
 have hlen := wFs_len l
 obtain ⟨p, cap, rfl, hcap, hx⟩ := id hl
 rw [List.length_map] at *
 obtain ⟨R, hR⟩ : ∃ R, deepFs l = R := ⟨_, rfl⟩
 rw [hR]
 have hLR := deepFs_le l
 generalize hL : l.length = L at *
 have HR := hid hR
 have HL := hid hL
 have HX := hid hl
 have HI := hid hI
 clear hx hL hl hI
 go_enter Tryz.func31, Tryz.ntmps31
 go_wp2_with fail
 go_loopg [3, 4, 5] L (fun gf u v _ wx => ∃ i a : Nat, u = .int .i64 (a : Int) ∧ v = .int .i64 (i : Int) ∧ i ≤ L ∧ L ≤ i + gf ∧ a ≤ R ∧ Hid (max a (deepFs (l.drop i)) = R) ∧ Hid (Below w.heap.size w wx))
 case atStart => exact ⟨0, 0, rfl, rfl, by omega, by omega, by omega, hid (by rw [List.drop_zero]; omega), hid (Below.refl _ _)⟩
 case round =>
  obtain ⟨i, a, rfl, rfl, hi, hg, ha, HA, HB⟩ := hrel
  have hR' : R ≤ 1048576 := by omega
  clear hR
  by_cases hlt : i < L
  ·obtain ⟨f, ht⟩ : ∃ f, l[i]? = some f := ⟨l[i]'(by rw [HL.out]; exact hlt), List.getElem?_eq_getElem _⟩
   obtain ⟨b, off, cap', e, _, hx⟩ := Lies.at (HX.out.keep (Keeps.of_below HB.out)) (i := i) (by rw [List.length_map, HL.out]; exact hlt)
   injection e with e1 e2 e3
   subst e1
   clear e2 e3
   have hx' : ∀ (j : Nat) (u : Value), (TreeP.Fn.cells f)[j]? = some u → wr.cell? ⟨b, off + i * 14 + j, none⟩ = some u := hx i (TreeP.Fn.cells f) (by rw [List.getElem?_map, ht]; rfl)
   have hws := wFs_get l i f ht
   have hin' := Fn.In.keep (Keeps.of_below HB.out) (HI.out f (List.mem_of_getElem? ht))
   have hA := HA.out
   rw [drop_cons ht, deepFs] at hA
   have K : Hid (max (max a (deepF f)) (deepFs (l.drop (i + 1))) = R) := hid (by rw [← hA]; omega)
   have haf : max a (deepF f) ≤ R := by omega
   obtain ⟨_, ⟨iP, iPs⟩, iG, _, ⟨iB, iBs⟩, iV⟩ := hin'
   obtain ⟨_, _, z2, _, z8⟩ := fn_one f
   have y2 : wr.cell? ⟨b, off + i * 14 + 2, none⟩ = some f.parsV := hx' 2 _ z2
   have y8 : wr.cell? ⟨b, off + i * 14 + 8, none⟩ = some f.bodyV := hx' 8 _ z8
   have P1 := hid (reg_cells (b := b) (off := off + i * 14 + 3) (cs := f.gives.cells) (w := wr) fun j u h => by rw [Nat.add_assoc]; exact hx' _ u (fn_gives h))
   have P2 := hid (reg_cells (b := b) (off := off + i * 14 + 9) (cs := f.value.cells) (w := wr) fun j u h => by rw [Nat.add_assoc]; exact hx' _ u (fn_value h))
   have Z1 := hid (tySize f.gives)
   have Z2 := hid (exSize f.value)
   have hdf : deepF f = max (max (deepT f.gives) (max (deepSs f.body) (deepE f.value))) (deepPs f.pars) := rfl
   unfold wF at hws
   have q1 := deepT_le f.gives
   have q2 := deepE_le f.value
   have q3 := deepSs_le f.body
   have q5 := wPas_len f.pars
   have c1 := fun d os => Calls.regrown_of (rdeepT_any (wT f.gives) f.gives (grow (redrawn wr d) os) (Nat.le_refl _) (by omega) (Ty.In.keep (Keeps.of_below (below_regrown wr d os)) _ iG))
   have c2 := fun d os => Calls.regrown_of (rdeepE_any (wE f.value) f.value (grow (redrawn wr d) os) (Nat.le_refl _) (by omega) (Ex.In.keep (Keeps.of_below (below_regrown wr d os)) _ iV))
   have c3 := fun d os => Calls.regrown_of (rdeepSs_any (wSs f.body) f.body (grow (redrawn wr d) os) f.bodyV (Nat.le_refl _) (by omega) (iB.keep (Keeps.of_below (below_regrown wr d os))) (St.Ins.keep (Keeps.of_below (below_regrown wr d os)) _ iBs))
   have c4 : Hid (∀ (k : Nat) (pa : Pa), f.pars[k]? = some pa → ∀ W, Keeps wr W → Calls Tryz.prog 55 #[.agg pa.type.cells.toArray] W fun r w' => r = .returned (.int .i64 (deepT pa.type : Int)) ∧ Below W.heap.size W w') := hid fun k pa hp W hk => by
    have := wPas_get f.pars k pa hp
    unfold wPa at this
    exact rdeepT_any _ pa.type W (Nat.le_refl _) (by omega) (Ty.In.keep hk _ (iPs pa (List.mem_of_getElem? hp)))
   simp only [Ex.val, Ty.val] at c1 c2
   generalize f.gives.cells = gcs at *
   generalize f.value.cells = vcs at *
   have MM := hid (fun (a b : Nat) (W : World) d os => Calls.regrown_of ((rmore_any a b (grow (redrawn W d) os)).mono fun e w' ⟨h1, h2⟩ => ⟨h1, below_of_eq h2⟩))
   generalize deepT f.gives = T1 at *
   generalize deepE f.value = T2 at *
   generalize deepSs f.body = T3 at *
   have m1 := MM.out T3 T2 wr
   have m2 := MM.out T1 (max T3 T2) wr
   have m3 := MM.out a (max T1 (max T3 T2)) wr
   obtain ⟨c0, hc0⟩ : ∃ c0, max a (max T1 (max T3 T2)) = c0 := ⟨_, rfl⟩
   obtain ⟨pp, pcap, hpv, hpcap, _⟩ := id iP
   rw [List.length_map] at hpv hpcap
   rw [hpv] at y2 iP
   have hT : Hid (max c0 (deepPs f.pars) = max a (deepF f)) := hid (by rw [hdf, ← hc0]; omega)
   have hc0' : c0 ≤ R := by rw [← hc0]; omega
   rw [hc0] at m3
   generalize max a (deepF f) = TG at *
   generalize f.pars = pars at *
   generalize f.bodyV = bodyV at *
   clear hc0
   generalize max T1 (max T3 T2) = mx at *
   generalize max T3 T2 = my at *
   generalize hQ : pars.length = Q at *
   have HQ := hid hQ
   have C1 := hid c1
   have C2 := hid c2
   have C3 := hid c3
   have M1 := hid m1
   have M2 := hid m2
   have M3 := hid m3
   have k8 := cell_regrown y8
   have Y2 := hid y2
   have IP := hid iP
   clear hx hx' ht c1 c2 c3 m1 m2 m3 iP iPs iG iB iBs iV z2 z8 y8 y2 hdf hA hpv hQ MM
   go_wp2_with fail
   refine wp_region_quiet_below (by kernel_rfl) (by kernel_rfl) ?_
   repeat (first | ((with_reducible refine wpQuiet_load_at (o := ⟨some 17, _, _, _, _, _⟩) rfl _ _ rfl b (off + i * 14 + 3) rfl gcs _ P1.out Tryz.underlying34 rfl Z1.out ?_); simp only [Act.put, List.setIfInBounds_toArray, List.set_cons_zero, List.set_cons_succ]) | ((with_reducible refine wpQuiet_load_at (o := ⟨some 29, _, _, _, _, _⟩) rfl _ _ rfl b (off + i * 14 + 9) rfl vcs _ P2.out Tryz.underlying40 rfl Z2.out ?_); simp only [Act.put, List.setIfInBounds_toArray, List.set_cons_zero, List.set_cons_succ]) | go_big_quiet_step (first | (with_reducible exact C1.out _ _) | (with_reducible exact C2.out _ _) | (with_reducible exact C3.out _ _) | (with_reducible exact M1.out _ _) | (with_reducible exact M2.out _ _) | (with_reducible exact M3.out _ _)))
   refine wpQuiet_nil ?_
   intro _ hw'
   obtain ⟨⟨dq, osq⟩, hw''⟩ := hw'
   subst hw''
   have HB1 := hid (HB.out.trans ((below_regrown wr dq osq).mono HB.out.size))
   have KW := hid (Keeps.of_below (below_regrown wr dq osq))
   have y2 := cell_regrown Y2.out dq osq
   have Y2' := hid y2
   clear Y2 P1 P2 C1 C2 C3 M1 M2 M3 k8
   generalize grow (redrawn wr dq) osq = wq at *
   go_wp2_with fail
   clear y2
   obtain ⟨go, rfl⟩ : ∃ go : Nat, go = gk := ⟨_, rfl⟩
   obtain ⟨wo, rfl⟩ : ∃ wo : World, wo = wr := ⟨_, rfl⟩
   go_loopg [3, 5] Q (fun gf u v wx => ∃ k c : Nat, u = .int .i64 (c : Int) ∧ v = .int .i64 (k : Int) ∧ k ≤ Q ∧ Q ≤ k + gf ∧ c ≤ R ∧ Hid (max c (deepPs (pars.drop k)) = TG) ∧ Hid (Below wq.heap.size wq wx))
   case atStart => exact ⟨0, c0, rfl, rfl, by omega, by omega, by omega, hid (by rw [List.drop_zero]; exact hT.out), hid (Below.refl _ _)⟩
   case round =>
    obtain ⟨k, c, rfl, rfl, hk, hgk, hc, HC, HBi⟩ := hrel
    have KI := hid (KW.out.trans (Keeps.of_below HBi.out))
    have y2 := later HBi.out Y2'.out
    have HBw := hid (HB1.out.trans (HBi.out.mono HB1.out.size))
    by_cases hkQ : k < Q
    ·obtain ⟨pa, hpa⟩ : ∃ pa, pars[k]? = some pa := ⟨pars[k]'(by rw [HQ.out]; exact hkQ), List.getElem?_eq_getElem _⟩
     obtain ⟨b2, off2, cap2, e, _, hx2⟩ := Lies.at (IP.out.keep KI.out) (i := k) (by rw [List.length_map, HQ.out]; exact hkQ)
     injection e with e1 e2 e3
     subst e1
     clear e2 e3
     have hx3 : ∀ (j : Nat) (u : Value), (Pa.cells pa)[j]? = some u → wr.cell? ⟨b2, off2 + k * 5 + j, none⟩ = some u := hx2 k (Pa.cells pa) (by rw [List.getElem?_map, hpa]; rfl)
     have ht3 : ∀ (j : Nat) (u : Value), pa.type.cells[j]? = some u → wr.cell? ⟨b2, off2 + k * 5 + 1 + j, none⟩ = some u := fun j u h => by rw [Nat.add_assoc]; exact hx3 _ u (pa_type h)
     have cD := c4.out k pa hpa wr KI.out
     have hK := HC.out
     rw [drop_cons hpa, deepPs] at hK
     have K2 : Hid (max (max c (deepT pa.type)) (deepPs (pars.drop (k + 1))) = TG) := hid (by rw [← hK]; omega)
     have hcr : max c (deepT pa.type) ≤ R := by omega
     have ZP := hid (tySize pa.type)
     generalize deepT pa.type = q at *
     generalize pa.type.cells = pcs at *
     have CD := hid cD
     have HT3 := hid ht3
     have MX := hid (fun W => rmore_any c q W)
     clear hx2 hx3 ht3 cD hK hpa
     go_wp2_with (with_reducible refine wpList_load_at (o := ⟨some 53, _, _, _, _, _⟩) rfl _ _ rfl b2 (off2 + k * 5 + 1) rfl pcs _ HT3.out Tryz.underlying34 rfl ZP.out ?_)
     with_reducible refine CD.out.mono ?_
     rintro e W2 ⟨rfl, hb2⟩
     have HB2 := hid (HBi.out.trans (hb2.mono HBi.out.size))
     clear hb2 y2
     go_wp2_with fail
     with_reducible refine (MX.out _).mono ?_
     rintro e W3 ⟨rfl, rfl⟩
     go_wp2_with fail
     go_roundg (gk - 1)
     case measure => omega
     case rel => exact ⟨k + 1, max c q, rfl, by go_num, by omega, by omega, hcr, K2, HB2⟩
    ·obtain rfl : k = Q := by omega
     have K2 : Hid (max c (deepFs (l.drop (i + 1))) = R) := hid (by
      have h := HC.out
      rw [← HQ.out, List.drop_length, deepPs] at h
      rw [← K.out, ← h]; omega)
     go_wp2_with fail
     go_roundg (go - 1)
     case measure => omega
     case rel => exact ⟨i + 1, c, rfl, by go_num, by omega, by omega, hc, K2, HBw⟩
  ·obtain rfl : i = L := by omega
   have K : Hid (a = R) := hid (by
    have h := HA.out
    rw [← HL.out, List.drop_length, deepFs] at h
    omega)
   go_wp2_with fail
   go_ret
   exact ⟨ret_nat K.out, HB.out⟩
end Go.Proofs.YtemflcojebanlaaGreatDoor.TreeC
