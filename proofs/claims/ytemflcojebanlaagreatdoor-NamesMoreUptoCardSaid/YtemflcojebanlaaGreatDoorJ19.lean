/- Contracts of names.everyRef, by the two functions that it is handed. -/
import Derived.Test.YtemflcojebanlaaGreatDoorJ16
namespace Go.Proofs.YtemflcojebanlaaGreatDoor.NmC
open Go Go.RowKit Go.Lib Go.Sort LexP TreeP LexC TreeC NmP

set_option maxHeartbeats 8000000 in
set_option maxRecDepth 100000 in
theorem every_whole  (ok : Nm → Bool → Bool) (t : Ty) (w : World) (hw : wT t ≤ 1048576) (hin : t.In w)
  (HO : ∀ (s : ByteArray) (i : Bool) (W : World), s.size ≤ 1048576 → Below w.heap.size w W → Calls Tryz.prog 27 #[.string s, .bool i] W fun r w' => r = .returned (.bool (ok (bs s) i)) ∧ W = w') :
  Calls Tryz.prog 26 #[t.val, .func (.func 27) #[] #[]] w fun r w' => r = .returned (.bool (everyT ok false t)) ∧ Below w.heap.size w w' := by
 obtain ⟨i0, hinf, hz0, hz1, hz2⟩ := info_parts ns_info
 obtain ⟨R, hR⟩ : ∃ R, everyT ok false t = R := ⟨_, rfl⟩
 rw [hR]
 have hone1 := ty_ones hin
 have hb0 : Below w.heap.size w (w.alloc (.cells t.cells.toArray 34 (0, 0))) := (Below.refl _ _).alloc (Nat.le_refl _) _
 have hbm : Below w.heap.size w ((w.alloc (.cells t.cells.toArray 34 (0, 0))).alloc (.cells t.cells.toArray 34 (0, 0))) := hb0.alloc hb0.size _
 have hbx := box_cell (w.alloc (.cells t.cells.toArray 34 (0, 0))) t.cells 34
 rw [World.size_alloc] at hbx
 have hl1 : Lies ((w.alloc (.cells t.cells.toArray 34 (0, 0))).alloc (.cells t.cells.toArray 34 (0, 0))) 4 (.slice (some ⟨w.heap.size + 1, 0, none⟩) 1 1) ([t].map Ty.cells) :=
  ⟨_, 1, rfl, Nat.le_refl _, fun _ => ⟨w.heap.size + 1, 0, rfl, fun i c' hi j u hj => by
   have hi0 : i = 0 := by have := (List.getElem?_eq_some_iff.1 hi).1; simp at this; exact this
   subst hi0
   cases hi
   have := hbx j u hj
   simpa using this⟩⟩
 have hok1 : okN ((w.alloc (.cells t.cells.toArray 34 (0, 0))).alloc (.cells t.cells.toArray 34 (0, 0))) ⟨.slice (some ⟨w.heap.size + 1, 0, none⟩) 1 1, [t], false⟩ :=
  ⟨hl1, by rw [Ty.Ins, Ty.Ins]; exact ⟨Ty.In.keep (Keeps.of_below hbm) t hin, trivial⟩⟩
 have hR1 : R = shelvesOk ok (pairs [⟨.slice (some ⟨w.heap.size + 1, 0, none⟩) 1 1, [t], false⟩]) := by
  rw [← hR]; simp [pairs, shelvesOk, everyTs]
 have hw1 : wNS [⟨.slice (some ⟨w.heap.size + 1, 0, none⟩) 1 1, [t], false⟩] ≤ 1048577 := by simp only [wNS, wTs]; omega
 have hown1 : (((w.alloc (.cells t.cells.toArray 34 (0, 0))).alloc (.cells t.cells.toArray 34 (0, 0))).alloc (.cells #[.slice (some ⟨w.heap.size + 1, 0, none⟩) 1 1, .bool false] 92 (0, 0))).ownsRow (w.heap.size + 2) 92 2 (.slice (some ⟨w.heap.size + 2, 0, none⟩) 1 1) 1 (nsRow [⟨.slice (some ⟨w.heap.size + 1, 0, none⟩) 1 1, [t], false⟩]) :=
  ⟨rfl, .inr ⟨w.heap.size + 2, 1, _, rfl, Nat.le_refl _, by
   have := heap_alloc_new ((w.alloc (.cells t.cells.toArray 34 (0, 0))).alloc (.cells t.cells.toArray 34 (0, 0))) (.cells #[.slice (some ⟨w.heap.size + 1, 0, none⟩) 1 1, .bool false] 92 (0, 0))
   rw [World.size_alloc, World.size_alloc] at this
   exact this, Nat.le_refl _, by unfold maxLen; omega, rfl, rfl⟩⟩
 obtain ⟨tk, tl, tm, tv, tks⟩ := t
 have hX0 : BoxAt (w.alloc (.cells #[.int .i64 tk, .string tl, .bool tm, tv] 34 (0, 0))) w.heap.size [.int .i64 tk, .string tl, .bool tm, tv] := BoxAt.new w _ _
 simp only [Ty.val_mk]
 change Below w.heap.size w ((w.alloc (.cells #[.int .i64 tk, .string tl, .bool tm, tv] 34 (0, 0))).alloc (.cells #[.int .i64 tk, .string tl, .bool tm, tv] 34 (0, 0))) at hbm
 change okN ((w.alloc (.cells #[.int .i64 tk, .string tl, .bool tm, tv] 34 (0, 0))).alloc (.cells #[.int .i64 tk, .string tl, .bool tm, tv] 34 (0, 0))) _ at hok1
 change (((w.alloc (.cells #[.int .i64 tk, .string tl, .bool tm, tv] 34 (0, 0))).alloc (.cells #[.int .i64 tk, .string tl, .bool tm, tv] 34 (0, 0))).alloc (.cells #[.slice (some ⟨w.heap.size + 1, 0, none⟩) 1 1, .bool false] 92 (0, 0))).ownsRow _ _ _ _ _ _ at hown1
 have O0 := hid hown1
 have S0 := hid hok1
 have R0 := hid hR1
 have BM := hid hbm
 have HOK := hid HO
 have d0 := box_get hX0 (j := 0) rfl
 have d1 := box_get hX0 (j := 1) rfl
 have d2 := box_get hX0 (j := 2) rfl
 have d3 := box_get hX0 (j := 3) rfl
 clear hb0 hbm hbx hl1 hok1 hR1 hown1 hX0 hone1 hin hR HO
 go_enter Tryz.func26, Tryz.ntmps26
 go_wp2_with fail
 clear d0 d1 d2 d3
 have hm : ((w.alloc (.cells #[.int .i64 tk, .string tl, .bool tm, tv] 34 (0, 0))).alloc (.cells #[.int .i64 tk, .string tl, .bool tm, tv] 34 (0, 0))).heap.size = w.heap.size + 2 := by rw [World.size_alloc, World.size_alloc]
 generalize World.alloc (World.alloc w _) _ = Wm at *
 have P0 : Hid (Below (w.heap.size + 2) Wm (Wm.alloc (.cells #[.slice (some ⟨w.heap.size + 1, 0, none⟩) 1 1, .bool false] 92 (0, 0)))) := hid (by rw [← hm]; exact (Below.refl _ _).alloc (Nat.le_refl _) _)
 generalize World.alloc Wm _ = W1 at *
 have S1 : Hid (∀ s ∈ [(⟨.slice (some ⟨w.heap.size + 1, 0, none⟩) 1 1, [.mk tk tl tm tv tks], false⟩ : NSh)], okN Wm s) := hid (fun s hs => by rw [List.mem_singleton] at hs; rw [hs]; exact S0.out)
 clear S0
 go_loopg [5] 1048578 (fun gf u wx => ∃ work : List NSh, Hid (wx.ownsRow (w.heap.size + 2) 92 2 u work.length (nsRow work)) ∧ Hid (∀ s ∈ work, okN Wm s) ∧ Hid (R = shelvesOk ok (pairs work)) ∧ wNS work ≤ gf ∧ wNS work ≤ 1048577 ∧ Hid (Below (w.heap.size + 2) Wm wx))
 case atStart => exact ⟨_, O0, S1, R0, by omega, hw1, P0⟩
 case round =>
  obtain ⟨work, HO, HS, HR, hf, hf2, HP⟩ := hrel
  clear O0 S1 R0 P0
  have HB := hid (BM.out.trans (HP.out.mono (by omega)))
  have hszr : w.heap.size + 2 ≤ wr.heap.size := by rw [← hm]; exact HP.out.size
  rcases List.eq_nil_or_concat work with rfl | ⟨rest, t, hwk⟩
  ·obtain ⟨p, cap, rfl⟩ := own_zero HO.out
   have K : R = true := by rw [HR.out]; rfl
   subst K
   clear HO HS HR
   go_wp2_with fail
   go_ret
   exact ⟨rfl, HB.out⟩
  ·rw [List.concat_eq_append] at hwk
   subst hwk
   have hlen : (rest ++ [t]).length = rest.length + 1 := by simp
   have HOo := HO.out
   rw [hlen] at HOo
   obtain ⟨g, cap, rfl, hg1, hg2, hnc⟩ := own_some HOo
   have hokt := HS.out t (by simp)
   have hcell : ∀ (j : Nat) (u : Value), t.cells[j]? = some u → wr.cell? ⟨g, rest.length * 2 + j, none⟩ = some u := fun j u hj => owns_cell HOo (nsRow_last rest t j u hj)
   have hpop := ownsRow_pop (w := wr) (base := w.heap.size + 2) (e := 92) (size := 2) (g := g) (cap := cap) (n := rest.length) (xs := nsRow rest) (last := t.cells) (nsRow_len rest) (by rw [← nsRow_snoc]; exact HOo)
   have hrr : R = (shelvesOk ok (pairs rest) && everyTs ok t.ins t.list) := by rw [HR.out, pairs_snoc, shelvesOk_append]; simp [shelvesOk]
   rw [wNS_app] at hf hf2
   have hn1 := wNS_len rest
   have hLw := wTs_len t.list
   obtain ⟨vt, lst, ins⟩ := t
   simp only [wNS] at hf hf2
   dsimp only at hrr hLw
   obtain ⟨q, qc, hve, hqc, _⟩ := id hokt.1
   dsimp only at hve
   subst hve
   rw [List.length_map] at *
   generalize hn : rest.length = n at *
   generalize hL : lst.length = L at *
   have x0 : wr.cell? ⟨g, n * 2, none⟩ = some (.slice q L qc) := hcell 0 _ rfl
   have x1 : wr.cell? ⟨g, n * 2 + 1, none⟩ = some (.bool ins) := hcell 1 _ rfl
   have PO := hid hpop
   have OKT := hid hokt
   have HRR := hid hrr
   have HN := hid hn
   have HL := hid hL
   have hn2 : n ≤ 1048577 := by omega
   have im1 : ((n + 1 : Nat) : Int) - 1 = (n : Int) := by omega
   have S3 : Hid (∀ s ∈ rest, okN Wm s) := hid fun s hs => HS.out s (by simp [hs])
   clear hcell hpop hokt hrr hn hL HO HOo HS HR hlen
   go_wp2_with fail
   clear x0 x1 im1
   have hb2 : Below wr.heap.size wr (wr.alloc (.cells #[.slice q L qc, .bool ins] 92)) := (Below.refl _ _).alloc (Nat.le_refl _) _
   have X3 := hid (BoxAt.new wr [.slice q L qc, .bool ins] 92)
   have P3 := hid (HP.out.trans (hb2.mono hszr))
   have O3 := hid (owns_below PO.out hb2)
   have hlb : g ≠ wr.heap.size := by omega
   have hlb2 : w.heap.size + 2 ≤ wr.heap.size := hszr
   have hsz2 : wr.heap.size < (wr.alloc (.cells #[.slice q L qc, .bool ins] 92)).heap.size := by rw [World.size_alloc]; omega
   clear hb2 PO HP HB hg2 hszr
   generalize wr.heap.size = lb at *
   generalize World.alloc wr _ = W2 at *
   obtain ⟨go, rfl⟩ : ∃ go : Nat, go = gk := ⟨_, rfl⟩
   have F3 : wNS rest + wTs lst + 1 ≤ go ∧ wNS rest + wTs lst ≤ 1048577 := by omega
   have R3 : Hid (R = (shelvesOk ok (pairs rest) && everyTs ok ins (lst.drop 0)) ∧ wNS rest + wTs (lst.drop 0) ≤ wNS rest + wTs lst) := hid (by rw [List.drop_zero]; exact ⟨HRR.out, Nat.le_refl _⟩)
   rw [show n = rest.length from HN.out.symm] at *
   clear HRR hf hf2
   go_loopg [5, 31] L (fun gf u v wx => ∃ (i : Nat) (wk : List NSh), v = .int .i64 (i : Int) ∧ i ≤ L ∧ L ≤ i + gf ∧ Hid (wx.ownsRow (w.heap.size + 2) 92 2 u wk.length (nsRow wk)) ∧ Hid (u.ownBlock ≠ some lb) ∧ Hid (∀ s ∈ wk, okN Wm s) ∧ Hid (Below (w.heap.size + 2) Wm wx) ∧ Hid (BoxAt wx lb [.slice q L qc, .bool ins]) ∧ Hid (R = (shelvesOk ok (pairs wk) && everyTs ok ins (lst.drop i)) ∧ wNS wk + wTs (lst.drop i) ≤ wNS rest + wTs lst))
   case atStart => exact ⟨0, rest, rfl, by omega, by omega, O3, hid (by simp [Value.ownBlock]; exact hlb), S3, P3, X3, R3⟩
   case round =>
    obtain ⟨i, wk, rfl, hi, hgk, HOi, HWi, HSi, HPi, HXi, HRi⟩ := hrel
    clear O3 S3 P3 X3 R3
    have HBi := hid (BM.out.trans (HPi.out.mono (by omega)))
    by_cases hlt : i < L
    ·obtain ⟨x, hx⟩ : ∃ x, lst[i]? = some x := ⟨lst[i]'(by rw [HL.out]; exact hlt), List.getElem?_eq_getElem _⟩
     have hkeep : Keeps Wm wr := Keeps.of_below (by rw [hm]; exact HPi.out)
     obtain ⟨b, off, capx, e, _, hc⟩ := Lies.at (OKT.out.1.keep hkeep) (i := i) (by rw [List.length_map, HL.out]; exact hlt)
     injection e with e1 e2 e3
     subst e1
     clear e2 e3
     have hx' : ∀ (j : Nat) (u : Value), (Ty.cells x)[j]? = some u → wr.cell? ⟨b, off + i * 4 + j, none⟩ = some u := hc i _ (by rw [List.getElem?_map, hx]; rfl)
     have hxi : x.In Wm := (Ty.ins_iff _ _).1 OKT.out.2 x (List.mem_of_getElem? hx)
     obtain ⟨hr1, hw1'⟩ := HRi.out
     rw [everyTs_drop hx] at hr1
     rw [wTs_drop hx] at hw1'
     obtain ⟨k, life, mt, kv, kids⟩ := x
     rw [everyT] at hr1
     rw [wT] at hw1'
     rw [Ty.In] at hxi
     obtain ⟨kp, kc, rfl, hkc, _⟩ := id hxi.1
     have hkl := wTs_len kids
     rw [List.length_map] at *
     have hokk : okN Wm ⟨.slice kp kids.length kc, kids, ins || inK k⟩ := hxi
     generalize hKL : kids.length = KL at *
     have x0 : wr.cell? ⟨b, off + i * 4, none⟩ = some (.int .i64 k) := hx' 0 _ rfl
     have x1 := hx' 1 _ rfl
     have x2 := hx' 2 _ rfl
     have x3 := hx' 3 _ rfl
     have hlf : life.size ≤ 1048576 := by omega
     have CO := hid (fun (W : World) (h : Below wr.heap.size wr W) => HOK.out life ins W hlf (HBi.out.trans (h.mono HBi.out.size)))
     have HR1 := hid hr1
     have HK := hid hokk
     have HKL := hid hKL
     clear hx hkeep hc hx' hxi hr1 hokk hKL HRi
     obtain ⟨bb, hbb⟩ : ∃ bb, (ins || inK k) = bb := ⟨_, rfl⟩
     obtain ⟨qq, hqq⟩ : ∃ qq, ok (bs life) ins = qq := ⟨_, rfl⟩
     rw [hbb] at HR1 HK
     rw [hqq] at HR1 CO
     have hb3 : Below wr.heap.size wr (wr.alloc (.cells #[.int .i64 k, .string life, .bool mt, .slice kp KL kc] 34)) := (Below.refl _ _).alloc (Nat.le_refl _) _
     have XK := hid (BoxAt.new wr [.int .i64 k, .string life, .bool mt, .slice kp KL kc] 34)
     have XL5 := hid (HXi.out.later hb3)
     have l1 := box_get XL5.out (j := 1) rfl
     have hlbr : lb < wr.heap.size := HXi.out.lt
     have O5 := hid (owns_below HOi.out hb3)
     have P5 := hid (HPi.out.trans (hb3.mono (by omega)))
     have HB5 := hid (HBi.out.trans (hb3.mono HBi.out.size))
     have CO5 := hid (CO.out _ hb3)
     have hwkl := wNS_len wk
     have hsz5 : w.heap.size + 2 ≤ (wr.alloc (.cells #[.int .i64 k, .string life, .bool mt, .slice kp KL kc] 34)).heap.size := by rw [World.size_alloc]; omega
     have HBB := hid hbb
     have HLB := hid hlbr
     clear hqq hbb CO HXi HOi HPi HBi hb3
     by_cases h0 : KL = 0
     ·subst h0
      have hk0 : kids = [] := List.length_eq_zero_iff.1 HKL.out
      subst hk0
      cases hk4 : (k == 4)
      case' true =>
       rw [hk4] at HR1
       go_wp2_with fail
       refine CO5.out.mono ?_
       rintro e W5 ⟨rfl, rfl⟩
       cases qq
       ·have K : R = false := by rw [HR1.out]; simp
        subst K
        go_wp2_with fail
        go_ret
        exact ⟨rfl, HB5.out⟩
       go_wp2_with fail
      case' false =>
       rw [hk4] at HR1
       go_wp2_with fail
      all_goals (
       have RN : Hid (R = (shelvesOk ok (pairs wk) && everyTs ok ins (lst.drop (i + 1))) ∧ wNS wk + wTs (lst.drop (i + 1)) ≤ wNS rest + wTs lst) := hid ⟨by rw [HR1.out]; simp [everyTs], by omega⟩
       clear HR1 HK HBB l1
       go_roundg (gk - 1)
       case measure => omega
       case rel => exact ⟨i + 1, wk, by go_num, by omega, by omega, O5, HWi, HSi, P5, XL5, RN⟩)
     ·have hpos : (0 : Int) < (KL : Int) := by omega
      have O6 := hid (owns_below O5.out ((Below.refl _ _).alloc (Nat.le_refl _) (.cells #[.slice kp KL kc, .bool bb] 92)))
      have P6 := hid (P5.out.alloc hsz5 (.cells #[.slice kp KL kc, .bool bb] 92))
      have XL6 := hid (XL5.out.later ((Below.refl _ _).alloc (Nat.le_refl _) (.cells #[.slice kp KL kc, .bool bb] 92)))
      have XC := hid (fun (j : Nat) (u : Value) (h : ([.slice kp KL kc, .bool bb] : List Value)[j]? = some u) => show ((wr.alloc (.cells #[.int .i64 k, .string life, .bool mt, .slice kp KL kc] 34)).alloc (.cells #[.slice kp KL kc, .bool bb] 92)).cell? ((⟨(wr.alloc (.cells #[.int .i64 k, .string life, .bool mt, .slice kp KL kc] 34)).heap.size, 0, none⟩ : Addr).add j) = some u by rw [Addr.add_lit, Nat.zero_add]; exact box_cell _ [.slice kp KL kc, .bool bb] _ j u h)
      rw [World.size_alloc] at XC
      have hsz6 : w.heap.size + 2 ≤ ((wr.alloc (.cells #[.int .i64 k, .string life, .bool mt, .slice kp KL kc] 34)).alloc (.cells #[.slice kp KL kc, .bool bb] 92)).heap.size := by rw [World.size_alloc]; omega
      have HSZ := hid hsz6
      have hwb : wk.length + 1 ≤ 1048578 := by omega
      cases hk4 : (k == 4) with
      | true =>
       rw [hk4] at HR1
       have hbt : bb = true := by rw [← HBB.out]; simp [inK, hk4]
       subst hbt
       cases qq with
       | false =>
        have K : R = false := by rw [HR1.out]; simp
        subst K
        cases ins
        all_goals go_wp2_with fail
        all_goals refine CO5.out.mono ?_
        all_goals rintro e W5 ⟨rfl, rfl⟩
        all_goals go_wp2_with fail
        all_goals go_ret
        all_goals exact ⟨rfl, HB5.out⟩
       | true =>
        cases ins with
        | false =>
         go_wp2_with fail
         refine CO5.out.mono ?_
         rintro e W5 ⟨rfl, rfl⟩
         have RN : Hid (R = (shelvesOk ok (pairs (wk ++ [⟨.slice kp KL kc, kids, true⟩])) && everyTs ok false (lst.drop (i + 1))) ∧ wNS (wk ++ [⟨.slice kp KL kc, kids, true⟩]) + wTs (lst.drop (i + 1)) ≤ wNS rest + wTs lst) := hid ⟨by rw [HR1.out, pairs_snoc, shelvesOk_append]; simp [shelvesOk, Bool.and_assoc], by rw [wNS_app]; simp only [wNS]; omega⟩
         have SN : Hid (∀ s ∈ wk ++ [(⟨.slice kp KL kc, kids, true⟩ : NSh)], okN Wm s) := hid (fun s hs => (List.mem_append.1 hs).elim (HSi.out s) (fun h => by rw [List.mem_singleton] at h; rw [h]; exact HK.out))
         clear HR1 HBB
         go_wp2_with (at_builtin; go_loud (refine wpList_append_own_at _ rfl _ _ 93 rfl (w.heap.size + 2) 92 i0 _ 2 32 Tryz.underlying93 hinf hz0 hz1 hz2 rfl (by decide) _ _ _ rfl O6.out ⟨wr.heap.size + 1, 0, none⟩ 1 1 [.slice kp KL kc, .bool true] rfl rfl XC.out ?c2 ?c3 ?c4 HSZ.out ?_))
         case c2 => simp [Value.oneCell']
         case c3 => unfold maxLen; omega
         case c4 => omega
         intro v'' W6 hown' hgrow _ hat
         have K1 : Hid (W6.ownsRow (w.heap.size + 2) 92 2 v'' (wk ++ [(⟨.slice kp KL kc, kids, true⟩ : NSh)]).length (nsRow (wk ++ [(⟨.slice kp KL kc, kids, true⟩ : NSh)]))) := hid (by rw [List.length_append, nsRow_snoc]; exact hown')
         have hrowb : ∀ j, (Value.ownBlock _ = some j) → w.heap.size + 2 ≤ j := fun j hj => (O6.out.lt j hj).1
         have K2 := hid (P6.out.grown hgrow HSZ.out hrowb)
         have hlbs := World.block_lt_of_cell? _ _ (box_get XL6.out (j := 0) rfl)
         have K4 : Hid (BoxAt W6 lb [.slice (some ⟨b, off, none⟩) L qc, .bool false]) := hid fun j u hj => (World.cell?_of_block (a := ⟨lb, j, none⟩) (hgrow.block lb hlbs (fun e => HWi.out e.symm))).trans (XL6.out j u hj)
         have K5 : Hid (v''.ownBlock ≠ some lb) := hid fun e => by
          rcases hat with h | h
          ·exact HWi.out (h.symm.trans e)
          ·rw [h] at e
           injection e with e
           have hlbs' := HLB.out
           omega
         clear hown' hgrow hat hrowb hlbs O6 P6 XL6 XC
         go_wp2_with fail
         go_roundg (gk - 1)
         case measure => omega
         case rel => exact ⟨i + 1, _, by go_num, by omega, by omega, K1, K5, SN, K2, K4, RN⟩

        | true =>
         go_wp2_with fail
         refine CO5.out.mono ?_
         rintro e W5 ⟨rfl, rfl⟩
         have RN : Hid (R = (shelvesOk ok (pairs (wk ++ [⟨.slice kp KL kc, kids, true⟩])) && everyTs ok true (lst.drop (i + 1))) ∧ wNS (wk ++ [⟨.slice kp KL kc, kids, true⟩]) + wTs (lst.drop (i + 1)) ≤ wNS rest + wTs lst) := hid ⟨by rw [HR1.out, pairs_snoc, shelvesOk_append]; simp [shelvesOk, Bool.and_assoc], by rw [wNS_app]; simp only [wNS]; omega⟩
         have SN : Hid (∀ s ∈ wk ++ [(⟨.slice kp KL kc, kids, true⟩ : NSh)], okN Wm s) := hid (fun s hs => (List.mem_append.1 hs).elim (HSi.out s) (fun h => by rw [List.mem_singleton] at h; rw [h]; exact HK.out))
         clear HR1 HBB
         go_wp2_with (at_builtin; go_loud (refine wpList_append_own_at _ rfl _ _ 93 rfl (w.heap.size + 2) 92 i0 _ 2 32 Tryz.underlying93 hinf hz0 hz1 hz2 rfl (by decide) _ _ _ rfl O6.out ⟨wr.heap.size + 1, 0, none⟩ 1 1 [.slice kp KL kc, .bool true] rfl rfl XC.out ?c2 ?c3 ?c4 HSZ.out ?_))
         case c2 => simp [Value.oneCell']
         case c3 => unfold maxLen; omega
         case c4 => omega
         intro v'' W6 hown' hgrow _ hat
         have K1 : Hid (W6.ownsRow (w.heap.size + 2) 92 2 v'' (wk ++ [(⟨.slice kp KL kc, kids, true⟩ : NSh)]).length (nsRow (wk ++ [(⟨.slice kp KL kc, kids, true⟩ : NSh)]))) := hid (by rw [List.length_append, nsRow_snoc]; exact hown')
         have hrowb : ∀ j, (Value.ownBlock _ = some j) → w.heap.size + 2 ≤ j := fun j hj => (O6.out.lt j hj).1
         have K2 := hid (P6.out.grown hgrow HSZ.out hrowb)
         have hlbs := World.block_lt_of_cell? _ _ (box_get XL6.out (j := 0) rfl)
         have K4 : Hid (BoxAt W6 lb [.slice (some ⟨b, off, none⟩) L qc, .bool true]) := hid fun j u hj => (World.cell?_of_block (a := ⟨lb, j, none⟩) (hgrow.block lb hlbs (fun e => HWi.out e.symm))).trans (XL6.out j u hj)
         have K5 : Hid (v''.ownBlock ≠ some lb) := hid fun e => by
          rcases hat with h | h
          ·exact HWi.out (h.symm.trans e)
          ·rw [h] at e
           injection e with e
           have hlbs' := HLB.out
           omega
         clear hown' hgrow hat hrowb hlbs O6 P6 XL6 XC
         go_wp2_with fail
         go_roundg (gk - 1)
         case measure => omega
         case rel => exact ⟨i + 1, _, by go_num, by omega, by omega, K1, K5, SN, K2, K4, RN⟩

      | false =>
       rw [hk4] at HR1
       cases ins with
       | false =>
        cases hk2 : (k == 2) with
        | false =>
         have hbf : bb = false := by rw [← HBB.out]; simp [inK, hk4, hk2]
         subst hbf
         have RN : Hid (R = (shelvesOk ok (pairs (wk ++ [⟨.slice kp KL kc, kids, false⟩])) && everyTs ok false (lst.drop (i + 1))) ∧ wNS (wk ++ [⟨.slice kp KL kc, kids, false⟩]) + wTs (lst.drop (i + 1)) ≤ wNS rest + wTs lst) := hid ⟨by rw [HR1.out, pairs_snoc, shelvesOk_append]; simp [shelvesOk, Bool.and_assoc], by rw [wNS_app]; simp only [wNS]; omega⟩
         have SN : Hid (∀ s ∈ wk ++ [(⟨.slice kp KL kc, kids, false⟩ : NSh)], okN Wm s) := hid (fun s hs => (List.mem_append.1 hs).elim (HSi.out s) (fun h => by rw [List.mem_singleton] at h; rw [h]; exact HK.out))
         clear HR1 HBB
         go_wp2_with (at_builtin; go_loud (refine wpList_append_own_at _ rfl _ _ 93 rfl (w.heap.size + 2) 92 i0 _ 2 32 Tryz.underlying93 hinf hz0 hz1 hz2 rfl (by decide) _ _ _ rfl O6.out ⟨wr.heap.size + 1, 0, none⟩ 1 1 [.slice kp KL kc, .bool false] rfl rfl XC.out ?c2 ?c3 ?c4 HSZ.out ?_))
         case c2 => simp [Value.oneCell']
         case c3 => unfold maxLen; omega
         case c4 => omega
         intro v'' W6 hown' hgrow _ hat
         have K1 : Hid (W6.ownsRow (w.heap.size + 2) 92 2 v'' (wk ++ [(⟨.slice kp KL kc, kids, false⟩ : NSh)]).length (nsRow (wk ++ [(⟨.slice kp KL kc, kids, false⟩ : NSh)]))) := hid (by rw [List.length_append, nsRow_snoc]; exact hown')
         have hrowb : ∀ j, (Value.ownBlock _ = some j) → w.heap.size + 2 ≤ j := fun j hj => (O6.out.lt j hj).1
         have K2 := hid (P6.out.grown hgrow HSZ.out hrowb)
         have hlbs := World.block_lt_of_cell? _ _ (box_get XL6.out (j := 0) rfl)
         have K4 : Hid (BoxAt W6 lb [.slice (some ⟨b, off, none⟩) L qc, .bool false]) := hid fun j u hj => (World.cell?_of_block (a := ⟨lb, j, none⟩) (hgrow.block lb hlbs (fun e => HWi.out e.symm))).trans (XL6.out j u hj)
         have K5 : Hid (v''.ownBlock ≠ some lb) := hid fun e => by
          rcases hat with h | h
          ·exact HWi.out (h.symm.trans e)
          ·rw [h] at e
           injection e with e
           have hlbs' := HLB.out
           omega
         clear hown' hgrow hat hrowb hlbs O6 P6 XL6 XC
         go_wp2_with fail
         go_roundg (gk - 1)
         case measure => omega
         case rel => exact ⟨i + 1, _, by go_num, by omega, by omega, K1, K5, SN, K2, K4, RN⟩

        | true =>
         have hbt : bb = true := by rw [← HBB.out]; simp [inK, hk2]
         subst hbt
         have RN : Hid (R = (shelvesOk ok (pairs (wk ++ [⟨.slice kp KL kc, kids, true⟩])) && everyTs ok false (lst.drop (i + 1))) ∧ wNS (wk ++ [⟨.slice kp KL kc, kids, true⟩]) + wTs (lst.drop (i + 1)) ≤ wNS rest + wTs lst) := hid ⟨by rw [HR1.out, pairs_snoc, shelvesOk_append]; simp [shelvesOk, Bool.and_assoc], by rw [wNS_app]; simp only [wNS]; omega⟩
         have SN : Hid (∀ s ∈ wk ++ [(⟨.slice kp KL kc, kids, true⟩ : NSh)], okN Wm s) := hid (fun s hs => (List.mem_append.1 hs).elim (HSi.out s) (fun h => by rw [List.mem_singleton] at h; rw [h]; exact HK.out))
         clear HR1 HBB
         go_wp2_with (at_builtin; go_loud (refine wpList_append_own_at _ rfl _ _ 93 rfl (w.heap.size + 2) 92 i0 _ 2 32 Tryz.underlying93 hinf hz0 hz1 hz2 rfl (by decide) _ _ _ rfl O6.out ⟨wr.heap.size + 1, 0, none⟩ 1 1 [.slice kp KL kc, .bool true] rfl rfl XC.out ?c2 ?c3 ?c4 HSZ.out ?_))
         case c2 => simp [Value.oneCell']
         case c3 => unfold maxLen; omega
         case c4 => omega
         intro v'' W6 hown' hgrow _ hat
         have K1 : Hid (W6.ownsRow (w.heap.size + 2) 92 2 v'' (wk ++ [(⟨.slice kp KL kc, kids, true⟩ : NSh)]).length (nsRow (wk ++ [(⟨.slice kp KL kc, kids, true⟩ : NSh)]))) := hid (by rw [List.length_append, nsRow_snoc]; exact hown')
         have hrowb : ∀ j, (Value.ownBlock _ = some j) → w.heap.size + 2 ≤ j := fun j hj => (O6.out.lt j hj).1
         have K2 := hid (P6.out.grown hgrow HSZ.out hrowb)
         have hlbs := World.block_lt_of_cell? _ _ (box_get XL6.out (j := 0) rfl)
         have K4 : Hid (BoxAt W6 lb [.slice (some ⟨b, off, none⟩) L qc, .bool false]) := hid fun j u hj => (World.cell?_of_block (a := ⟨lb, j, none⟩) (hgrow.block lb hlbs (fun e => HWi.out e.symm))).trans (XL6.out j u hj)
         have K5 : Hid (v''.ownBlock ≠ some lb) := hid fun e => by
          rcases hat with h | h
          ·exact HWi.out (h.symm.trans e)
          ·rw [h] at e
           injection e with e
           have hlbs' := HLB.out
           omega
         clear hown' hgrow hat hrowb hlbs O6 P6 XL6 XC
         go_wp2_with fail
         go_roundg (gk - 1)
         case measure => omega
         case rel => exact ⟨i + 1, _, by go_num, by omega, by omega, K1, K5, SN, K2, K4, RN⟩

       | true =>
        have hbt : bb = true := by rw [← HBB.out]; simp
        subst hbt
        have RN : Hid (R = (shelvesOk ok (pairs (wk ++ [⟨.slice kp KL kc, kids, true⟩])) && everyTs ok true (lst.drop (i + 1))) ∧ wNS (wk ++ [⟨.slice kp KL kc, kids, true⟩]) + wTs (lst.drop (i + 1)) ≤ wNS rest + wTs lst) := hid ⟨by rw [HR1.out, pairs_snoc, shelvesOk_append]; simp [shelvesOk, Bool.and_assoc], by rw [wNS_app]; simp only [wNS]; omega⟩
        have SN : Hid (∀ s ∈ wk ++ [(⟨.slice kp KL kc, kids, true⟩ : NSh)], okN Wm s) := hid (fun s hs => (List.mem_append.1 hs).elim (HSi.out s) (fun h => by rw [List.mem_singleton] at h; rw [h]; exact HK.out))
        clear HR1 HBB
        go_wp2_with (at_builtin; go_loud (refine wpList_append_own_at _ rfl _ _ 93 rfl (w.heap.size + 2) 92 i0 _ 2 32 Tryz.underlying93 hinf hz0 hz1 hz2 rfl (by decide) _ _ _ rfl O6.out ⟨wr.heap.size + 1, 0, none⟩ 1 1 [.slice kp KL kc, .bool true] rfl rfl XC.out ?c2 ?c3 ?c4 HSZ.out ?_))
        case c2 => simp [Value.oneCell']
        case c3 => unfold maxLen; omega
        case c4 => omega
        intro v'' W6 hown' hgrow _ hat
        have K1 : Hid (W6.ownsRow (w.heap.size + 2) 92 2 v'' (wk ++ [(⟨.slice kp KL kc, kids, true⟩ : NSh)]).length (nsRow (wk ++ [(⟨.slice kp KL kc, kids, true⟩ : NSh)]))) := hid (by rw [List.length_append, nsRow_snoc]; exact hown')
        have hrowb : ∀ j, (Value.ownBlock _ = some j) → w.heap.size + 2 ≤ j := fun j hj => (O6.out.lt j hj).1
        have K2 := hid (P6.out.grown hgrow HSZ.out hrowb)
        have hlbs := World.block_lt_of_cell? _ _ (box_get XL6.out (j := 0) rfl)
        have K4 : Hid (BoxAt W6 lb [.slice (some ⟨b, off, none⟩) L qc, .bool true]) := hid fun j u hj => (World.cell?_of_block (a := ⟨lb, j, none⟩) (hgrow.block lb hlbs (fun e => HWi.out e.symm))).trans (XL6.out j u hj)
        have K5 : Hid (v''.ownBlock ≠ some lb) := hid fun e => by
         rcases hat with h | h
         ·exact HWi.out (h.symm.trans e)
         ·rw [h] at e
          injection e with e
          have hlbs' := HLB.out
          omega
        clear hown' hgrow hat hrowb hlbs O6 P6 XL6 XC
        go_wp2_with fail
        go_roundg (gk - 1)
        case measure => omega
        case rel => exact ⟨i + 1, _, by go_num, by omega, by omega, K1, K5, SN, K2, K4, RN⟩
    ·obtain rfl : i = L := by omega
     obtain ⟨hr1, hw1'⟩ := HRi.out
     rw [drop_len (by rw [HL.out]; exact Nat.le_refl _)] at hr1 hw1'
     have K : Hid (R = shelvesOk ok (pairs wk)) := hid (by rw [hr1]; simp [everyTs])
     have hw2 : wNS wk ≤ go - 1 ∧ wNS wk ≤ 1048577 ∧ 0 < go := by simp only [wTs] at hw1'; omega
     clear hr1 hw1' HRi
     go_wp2_with fail
     go_roundg (go - 1)
     case measure => omega
     case rel => exact ⟨wk, HOi, HSi, K, hw2.1, hw2.2.1, HPi⟩
set_option maxHeartbeats 8000000 in
set_option maxRecDepth 100000 in
theorem every_lives (lb : Nat) (ok : Nm → Bool → Bool) (t : Ty) (w : World) (hw : wT t ≤ 1048576) (hin : t.In w)
  (HO : ∀ (s : ByteArray) (i : Bool) (W : World), s.size ≤ 1048576 → Below w.heap.size w W → Calls Tryz.prog 76 #[.string s, .bool i, .pointer (some ⟨lb, 0, none⟩)] W fun r w' => r = .returned (.bool (ok (bs s) i)) ∧ W = w') :
  Calls Tryz.prog 26 #[t.val, .func (.func 76) #[] #[.pointer (some ⟨lb, 0, none⟩)]] w fun r w' => r = .returned (.bool (everyT ok false t)) ∧ Below w.heap.size w w' := by
 obtain ⟨i0, hinf, hz0, hz1, hz2⟩ := info_parts ns_info
 obtain ⟨R, hR⟩ : ∃ R, everyT ok false t = R := ⟨_, rfl⟩
 rw [hR]
 have hone1 := ty_ones hin
 have hb0 : Below w.heap.size w (w.alloc (.cells t.cells.toArray 34 (0, 0))) := (Below.refl _ _).alloc (Nat.le_refl _) _
 have hbm : Below w.heap.size w ((w.alloc (.cells t.cells.toArray 34 (0, 0))).alloc (.cells t.cells.toArray 34 (0, 0))) := hb0.alloc hb0.size _
 have hbx := box_cell (w.alloc (.cells t.cells.toArray 34 (0, 0))) t.cells 34
 rw [World.size_alloc] at hbx
 have hl1 : Lies ((w.alloc (.cells t.cells.toArray 34 (0, 0))).alloc (.cells t.cells.toArray 34 (0, 0))) 4 (.slice (some ⟨w.heap.size + 1, 0, none⟩) 1 1) ([t].map Ty.cells) :=
  ⟨_, 1, rfl, Nat.le_refl _, fun _ => ⟨w.heap.size + 1, 0, rfl, fun i c' hi j u hj => by
   have hi0 : i = 0 := by have := (List.getElem?_eq_some_iff.1 hi).1; simp at this; exact this
   subst hi0
   cases hi
   have := hbx j u hj
   simpa using this⟩⟩
 have hok1 : okN ((w.alloc (.cells t.cells.toArray 34 (0, 0))).alloc (.cells t.cells.toArray 34 (0, 0))) ⟨.slice (some ⟨w.heap.size + 1, 0, none⟩) 1 1, [t], false⟩ :=
  ⟨hl1, by rw [Ty.Ins, Ty.Ins]; exact ⟨Ty.In.keep (Keeps.of_below hbm) t hin, trivial⟩⟩
 have hR1 : R = shelvesOk ok (pairs [⟨.slice (some ⟨w.heap.size + 1, 0, none⟩) 1 1, [t], false⟩]) := by
  rw [← hR]; simp [pairs, shelvesOk, everyTs]
 have hw1 : wNS [⟨.slice (some ⟨w.heap.size + 1, 0, none⟩) 1 1, [t], false⟩] ≤ 1048577 := by simp only [wNS, wTs]; omega
 have hown1 : (((w.alloc (.cells t.cells.toArray 34 (0, 0))).alloc (.cells t.cells.toArray 34 (0, 0))).alloc (.cells #[.slice (some ⟨w.heap.size + 1, 0, none⟩) 1 1, .bool false] 92 (0, 0))).ownsRow (w.heap.size + 2) 92 2 (.slice (some ⟨w.heap.size + 2, 0, none⟩) 1 1) 1 (nsRow [⟨.slice (some ⟨w.heap.size + 1, 0, none⟩) 1 1, [t], false⟩]) :=
  ⟨rfl, .inr ⟨w.heap.size + 2, 1, _, rfl, Nat.le_refl _, by
   have := heap_alloc_new ((w.alloc (.cells t.cells.toArray 34 (0, 0))).alloc (.cells t.cells.toArray 34 (0, 0))) (.cells #[.slice (some ⟨w.heap.size + 1, 0, none⟩) 1 1, .bool false] 92 (0, 0))
   rw [World.size_alloc, World.size_alloc] at this
   exact this, Nat.le_refl _, by unfold maxLen; omega, rfl, rfl⟩⟩
 obtain ⟨tk, tl, tm, tv, tks⟩ := t
 have hX0 : BoxAt (w.alloc (.cells #[.int .i64 tk, .string tl, .bool tm, tv] 34 (0, 0))) w.heap.size [.int .i64 tk, .string tl, .bool tm, tv] := BoxAt.new w _ _
 simp only [Ty.val_mk]
 change Below w.heap.size w ((w.alloc (.cells #[.int .i64 tk, .string tl, .bool tm, tv] 34 (0, 0))).alloc (.cells #[.int .i64 tk, .string tl, .bool tm, tv] 34 (0, 0))) at hbm
 change okN ((w.alloc (.cells #[.int .i64 tk, .string tl, .bool tm, tv] 34 (0, 0))).alloc (.cells #[.int .i64 tk, .string tl, .bool tm, tv] 34 (0, 0))) _ at hok1
 change (((w.alloc (.cells #[.int .i64 tk, .string tl, .bool tm, tv] 34 (0, 0))).alloc (.cells #[.int .i64 tk, .string tl, .bool tm, tv] 34 (0, 0))).alloc (.cells #[.slice (some ⟨w.heap.size + 1, 0, none⟩) 1 1, .bool false] 92 (0, 0))).ownsRow _ _ _ _ _ _ at hown1
 have O0 := hid hown1
 have S0 := hid hok1
 have R0 := hid hR1
 have BM := hid hbm
 have HOK := hid HO
 have d0 := box_get hX0 (j := 0) rfl
 have d1 := box_get hX0 (j := 1) rfl
 have d2 := box_get hX0 (j := 2) rfl
 have d3 := box_get hX0 (j := 3) rfl
 clear hb0 hbm hbx hl1 hok1 hR1 hown1 hX0 hone1 hin hR HO
 go_enter Tryz.func26, Tryz.ntmps26
 go_wp2_with fail
 clear d0 d1 d2 d3
 have hm : ((w.alloc (.cells #[.int .i64 tk, .string tl, .bool tm, tv] 34 (0, 0))).alloc (.cells #[.int .i64 tk, .string tl, .bool tm, tv] 34 (0, 0))).heap.size = w.heap.size + 2 := by rw [World.size_alloc, World.size_alloc]
 generalize World.alloc (World.alloc w _) _ = Wm at *
 have P0 : Hid (Below (w.heap.size + 2) Wm (Wm.alloc (.cells #[.slice (some ⟨w.heap.size + 1, 0, none⟩) 1 1, .bool false] 92 (0, 0)))) := hid (by rw [← hm]; exact (Below.refl _ _).alloc (Nat.le_refl _) _)
 generalize World.alloc Wm _ = W1 at *
 have S1 : Hid (∀ s ∈ [(⟨.slice (some ⟨w.heap.size + 1, 0, none⟩) 1 1, [.mk tk tl tm tv tks], false⟩ : NSh)], okN Wm s) := hid (fun s hs => by rw [List.mem_singleton] at hs; rw [hs]; exact S0.out)
 clear S0
 go_loopg [5] 1048578 (fun gf u wx => ∃ work : List NSh, Hid (wx.ownsRow (w.heap.size + 2) 92 2 u work.length (nsRow work)) ∧ Hid (∀ s ∈ work, okN Wm s) ∧ Hid (R = shelvesOk ok (pairs work)) ∧ wNS work ≤ gf ∧ wNS work ≤ 1048577 ∧ Hid (Below (w.heap.size + 2) Wm wx))
 case atStart => exact ⟨_, O0, S1, R0, by omega, hw1, P0⟩
 case round =>
  obtain ⟨work, HO, HS, HR, hf, hf2, HP⟩ := hrel
  clear O0 S1 R0 P0
  have HB := hid (BM.out.trans (HP.out.mono (by omega)))
  have hszr : w.heap.size + 2 ≤ wr.heap.size := by rw [← hm]; exact HP.out.size
  rcases List.eq_nil_or_concat work with rfl | ⟨rest, t, hwk⟩
  ·obtain ⟨p, cap, rfl⟩ := own_zero HO.out
   have K : R = true := by rw [HR.out]; rfl
   subst K
   clear HO HS HR
   go_wp2_with fail
   go_ret
   exact ⟨rfl, HB.out⟩
  ·rw [List.concat_eq_append] at hwk
   subst hwk
   have hlen : (rest ++ [t]).length = rest.length + 1 := by simp
   have HOo := HO.out
   rw [hlen] at HOo
   obtain ⟨g, cap, rfl, hg1, hg2, hnc⟩ := own_some HOo
   have hokt := HS.out t (by simp)
   have hcell : ∀ (j : Nat) (u : Value), t.cells[j]? = some u → wr.cell? ⟨g, rest.length * 2 + j, none⟩ = some u := fun j u hj => owns_cell HOo (nsRow_last rest t j u hj)
   have hpop := ownsRow_pop (w := wr) (base := w.heap.size + 2) (e := 92) (size := 2) (g := g) (cap := cap) (n := rest.length) (xs := nsRow rest) (last := t.cells) (nsRow_len rest) (by rw [← nsRow_snoc]; exact HOo)
   have hrr : R = (shelvesOk ok (pairs rest) && everyTs ok t.ins t.list) := by rw [HR.out, pairs_snoc, shelvesOk_append]; simp [shelvesOk]
   rw [wNS_app] at hf hf2
   have hn1 := wNS_len rest
   have hLw := wTs_len t.list
   obtain ⟨vt, lst, ins⟩ := t
   simp only [wNS] at hf hf2
   dsimp only at hrr hLw
   obtain ⟨q, qc, hve, hqc, _⟩ := id hokt.1
   dsimp only at hve
   subst hve
   rw [List.length_map] at *
   generalize hn : rest.length = n at *
   generalize hL : lst.length = L at *
   have x0 : wr.cell? ⟨g, n * 2, none⟩ = some (.slice q L qc) := hcell 0 _ rfl
   have x1 : wr.cell? ⟨g, n * 2 + 1, none⟩ = some (.bool ins) := hcell 1 _ rfl
   have PO := hid hpop
   have OKT := hid hokt
   have HRR := hid hrr
   have HN := hid hn
   have HL := hid hL
   have hn2 : n ≤ 1048577 := by omega
   have im1 : ((n + 1 : Nat) : Int) - 1 = (n : Int) := by omega
   have S3 : Hid (∀ s ∈ rest, okN Wm s) := hid fun s hs => HS.out s (by simp [hs])
   clear hcell hpop hokt hrr hn hL HO HOo HS HR hlen
   go_wp2_with fail
   clear x0 x1 im1
   have hb2 : Below wr.heap.size wr (wr.alloc (.cells #[.slice q L qc, .bool ins] 92)) := (Below.refl _ _).alloc (Nat.le_refl _) _
   have X3 := hid (BoxAt.new wr [.slice q L qc, .bool ins] 92)
   have P3 := hid (HP.out.trans (hb2.mono hszr))
   have O3 := hid (owns_below PO.out hb2)
   have hlb : g ≠ wr.heap.size := by omega
   have hlb2 : w.heap.size + 2 ≤ wr.heap.size := hszr
   have hsz2 : wr.heap.size < (wr.alloc (.cells #[.slice q L qc, .bool ins] 92)).heap.size := by rw [World.size_alloc]; omega
   clear hb2 PO HP HB hg2 hszr
   generalize wr.heap.size = lb at *
   generalize World.alloc wr _ = W2 at *
   obtain ⟨go, rfl⟩ : ∃ go : Nat, go = gk := ⟨_, rfl⟩
   have F3 : wNS rest + wTs lst + 1 ≤ go ∧ wNS rest + wTs lst ≤ 1048577 := by omega
   have R3 : Hid (R = (shelvesOk ok (pairs rest) && everyTs ok ins (lst.drop 0)) ∧ wNS rest + wTs (lst.drop 0) ≤ wNS rest + wTs lst) := hid (by rw [List.drop_zero]; exact ⟨HRR.out, Nat.le_refl _⟩)
   rw [show n = rest.length from HN.out.symm] at *
   clear HRR hf hf2
   go_loopg [5, 31] L (fun gf u v wx => ∃ (i : Nat) (wk : List NSh), v = .int .i64 (i : Int) ∧ i ≤ L ∧ L ≤ i + gf ∧ Hid (wx.ownsRow (w.heap.size + 2) 92 2 u wk.length (nsRow wk)) ∧ Hid (u.ownBlock ≠ some lb) ∧ Hid (∀ s ∈ wk, okN Wm s) ∧ Hid (Below (w.heap.size + 2) Wm wx) ∧ Hid (BoxAt wx lb [.slice q L qc, .bool ins]) ∧ Hid (R = (shelvesOk ok (pairs wk) && everyTs ok ins (lst.drop i)) ∧ wNS wk + wTs (lst.drop i) ≤ wNS rest + wTs lst))
   case atStart => exact ⟨0, rest, rfl, by omega, by omega, O3, hid (by simp [Value.ownBlock]; exact hlb), S3, P3, X3, R3⟩
   case round =>
    obtain ⟨i, wk, rfl, hi, hgk, HOi, HWi, HSi, HPi, HXi, HRi⟩ := hrel
    clear O3 S3 P3 X3 R3
    have HBi := hid (BM.out.trans (HPi.out.mono (by omega)))
    by_cases hlt : i < L
    ·obtain ⟨x, hx⟩ : ∃ x, lst[i]? = some x := ⟨lst[i]'(by rw [HL.out]; exact hlt), List.getElem?_eq_getElem _⟩
     have hkeep : Keeps Wm wr := Keeps.of_below (by rw [hm]; exact HPi.out)
     obtain ⟨b, off, capx, e, _, hc⟩ := Lies.at (OKT.out.1.keep hkeep) (i := i) (by rw [List.length_map, HL.out]; exact hlt)
     injection e with e1 e2 e3
     subst e1
     clear e2 e3
     have hx' : ∀ (j : Nat) (u : Value), (Ty.cells x)[j]? = some u → wr.cell? ⟨b, off + i * 4 + j, none⟩ = some u := hc i _ (by rw [List.getElem?_map, hx]; rfl)
     have hxi : x.In Wm := (Ty.ins_iff _ _).1 OKT.out.2 x (List.mem_of_getElem? hx)
     obtain ⟨hr1, hw1'⟩ := HRi.out
     rw [everyTs_drop hx] at hr1
     rw [wTs_drop hx] at hw1'
     obtain ⟨k, life, mt, kv, kids⟩ := x
     rw [everyT] at hr1
     rw [wT] at hw1'
     rw [Ty.In] at hxi
     obtain ⟨kp, kc, rfl, hkc, _⟩ := id hxi.1
     have hkl := wTs_len kids
     rw [List.length_map] at *
     have hokk : okN Wm ⟨.slice kp kids.length kc, kids, ins || inK k⟩ := hxi
     generalize hKL : kids.length = KL at *
     have x0 : wr.cell? ⟨b, off + i * 4, none⟩ = some (.int .i64 k) := hx' 0 _ rfl
     have x1 := hx' 1 _ rfl
     have x2 := hx' 2 _ rfl
     have x3 := hx' 3 _ rfl
     have hlf : life.size ≤ 1048576 := by omega
     have CO := hid (fun (W : World) (h : Below wr.heap.size wr W) => HOK.out life ins W hlf (HBi.out.trans (h.mono HBi.out.size)))
     have HR1 := hid hr1
     have HK := hid hokk
     have HKL := hid hKL
     clear hx hkeep hc hx' hxi hr1 hokk hKL HRi
     obtain ⟨bb, hbb⟩ : ∃ bb, (ins || inK k) = bb := ⟨_, rfl⟩
     obtain ⟨qq, hqq⟩ : ∃ qq, ok (bs life) ins = qq := ⟨_, rfl⟩
     rw [hbb] at HR1 HK
     rw [hqq] at HR1 CO
     have hb3 : Below wr.heap.size wr (wr.alloc (.cells #[.int .i64 k, .string life, .bool mt, .slice kp KL kc] 34)) := (Below.refl _ _).alloc (Nat.le_refl _) _
     have XK := hid (BoxAt.new wr [.int .i64 k, .string life, .bool mt, .slice kp KL kc] 34)
     have XL5 := hid (HXi.out.later hb3)
     have l1 := box_get XL5.out (j := 1) rfl
     have hlbr : lb < wr.heap.size := HXi.out.lt
     have O5 := hid (owns_below HOi.out hb3)
     have P5 := hid (HPi.out.trans (hb3.mono (by omega)))
     have HB5 := hid (HBi.out.trans (hb3.mono HBi.out.size))
     have CO5 := hid (CO.out _ hb3)
     have hwkl := wNS_len wk
     have hsz5 : w.heap.size + 2 ≤ (wr.alloc (.cells #[.int .i64 k, .string life, .bool mt, .slice kp KL kc] 34)).heap.size := by rw [World.size_alloc]; omega
     have HBB := hid hbb
     have HLB := hid hlbr
     clear hqq hbb CO HXi HOi HPi HBi hb3
     by_cases h0 : KL = 0
     ·subst h0
      have hk0 : kids = [] := List.length_eq_zero_iff.1 HKL.out
      subst hk0
      cases hk4 : (k == 4)
      case' true =>
       rw [hk4] at HR1
       go_wp2_with fail
       refine CO5.out.mono ?_
       rintro e W5 ⟨rfl, rfl⟩
       cases qq
       ·have K : R = false := by rw [HR1.out]; simp
        subst K
        go_wp2_with fail
        go_ret
        exact ⟨rfl, HB5.out⟩
       go_wp2_with fail
      case' false =>
       rw [hk4] at HR1
       go_wp2_with fail
      all_goals (
       have RN : Hid (R = (shelvesOk ok (pairs wk) && everyTs ok ins (lst.drop (i + 1))) ∧ wNS wk + wTs (lst.drop (i + 1)) ≤ wNS rest + wTs lst) := hid ⟨by rw [HR1.out]; simp [everyTs], by omega⟩
       clear HR1 HK HBB l1
       go_roundg (gk - 1)
       case measure => omega
       case rel => exact ⟨i + 1, wk, by go_num, by omega, by omega, O5, HWi, HSi, P5, XL5, RN⟩)
     ·have hpos : (0 : Int) < (KL : Int) := by omega
      have O6 := hid (owns_below O5.out ((Below.refl _ _).alloc (Nat.le_refl _) (.cells #[.slice kp KL kc, .bool bb] 92)))
      have P6 := hid (P5.out.alloc hsz5 (.cells #[.slice kp KL kc, .bool bb] 92))
      have XL6 := hid (XL5.out.later ((Below.refl _ _).alloc (Nat.le_refl _) (.cells #[.slice kp KL kc, .bool bb] 92)))
      have XC := hid (fun (j : Nat) (u : Value) (h : ([.slice kp KL kc, .bool bb] : List Value)[j]? = some u) => show ((wr.alloc (.cells #[.int .i64 k, .string life, .bool mt, .slice kp KL kc] 34)).alloc (.cells #[.slice kp KL kc, .bool bb] 92)).cell? ((⟨(wr.alloc (.cells #[.int .i64 k, .string life, .bool mt, .slice kp KL kc] 34)).heap.size, 0, none⟩ : Addr).add j) = some u by rw [Addr.add_lit, Nat.zero_add]; exact box_cell _ [.slice kp KL kc, .bool bb] _ j u h)
      rw [World.size_alloc] at XC
      have hsz6 : w.heap.size + 2 ≤ ((wr.alloc (.cells #[.int .i64 k, .string life, .bool mt, .slice kp KL kc] 34)).alloc (.cells #[.slice kp KL kc, .bool bb] 92)).heap.size := by rw [World.size_alloc]; omega
      have HSZ := hid hsz6
      have hwb : wk.length + 1 ≤ 1048578 := by omega
      cases hk4 : (k == 4) with
      | true =>
       rw [hk4] at HR1
       have hbt : bb = true := by rw [← HBB.out]; simp [inK, hk4]
       subst hbt
       cases qq with
       | false =>
        have K : R = false := by rw [HR1.out]; simp
        subst K
        cases ins
        all_goals go_wp2_with fail
        all_goals refine CO5.out.mono ?_
        all_goals rintro e W5 ⟨rfl, rfl⟩
        all_goals go_wp2_with fail
        all_goals go_ret
        all_goals exact ⟨rfl, HB5.out⟩
       | true =>
        cases ins with
        | false =>
         go_wp2_with fail
         refine CO5.out.mono ?_
         rintro e W5 ⟨rfl, rfl⟩
         have RN : Hid (R = (shelvesOk ok (pairs (wk ++ [⟨.slice kp KL kc, kids, true⟩])) && everyTs ok false (lst.drop (i + 1))) ∧ wNS (wk ++ [⟨.slice kp KL kc, kids, true⟩]) + wTs (lst.drop (i + 1)) ≤ wNS rest + wTs lst) := hid ⟨by rw [HR1.out, pairs_snoc, shelvesOk_append]; simp [shelvesOk, Bool.and_assoc], by rw [wNS_app]; simp only [wNS]; omega⟩
         have SN : Hid (∀ s ∈ wk ++ [(⟨.slice kp KL kc, kids, true⟩ : NSh)], okN Wm s) := hid (fun s hs => (List.mem_append.1 hs).elim (HSi.out s) (fun h => by rw [List.mem_singleton] at h; rw [h]; exact HK.out))
         clear HR1 HBB
         go_wp2_with (at_builtin; go_loud (refine wpList_append_own_at _ rfl _ _ 93 rfl (w.heap.size + 2) 92 i0 _ 2 32 Tryz.underlying93 hinf hz0 hz1 hz2 rfl (by decide) _ _ _ rfl O6.out ⟨wr.heap.size + 1, 0, none⟩ 1 1 [.slice kp KL kc, .bool true] rfl rfl XC.out ?c2 ?c3 ?c4 HSZ.out ?_))
         case c2 => simp [Value.oneCell']
         case c3 => unfold maxLen; omega
         case c4 => omega
         intro v'' W6 hown' hgrow _ hat
         have K1 : Hid (W6.ownsRow (w.heap.size + 2) 92 2 v'' (wk ++ [(⟨.slice kp KL kc, kids, true⟩ : NSh)]).length (nsRow (wk ++ [(⟨.slice kp KL kc, kids, true⟩ : NSh)]))) := hid (by rw [List.length_append, nsRow_snoc]; exact hown')
         have hrowb : ∀ j, (Value.ownBlock _ = some j) → w.heap.size + 2 ≤ j := fun j hj => (O6.out.lt j hj).1
         have K2 := hid (P6.out.grown hgrow HSZ.out hrowb)
         have hlbs := World.block_lt_of_cell? _ _ (box_get XL6.out (j := 0) rfl)
         have K4 : Hid (BoxAt W6 lb [.slice (some ⟨b, off, none⟩) L qc, .bool false]) := hid fun j u hj => (World.cell?_of_block (a := ⟨lb, j, none⟩) (hgrow.block lb hlbs (fun e => HWi.out e.symm))).trans (XL6.out j u hj)
         have K5 : Hid (v''.ownBlock ≠ some lb) := hid fun e => by
          rcases hat with h | h
          ·exact HWi.out (h.symm.trans e)
          ·rw [h] at e
           injection e with e
           have hlbs' := HLB.out
           omega
         clear hown' hgrow hat hrowb hlbs O6 P6 XL6 XC
         go_wp2_with fail
         go_roundg (gk - 1)
         case measure => omega
         case rel => exact ⟨i + 1, _, by go_num, by omega, by omega, K1, K5, SN, K2, K4, RN⟩

        | true =>
         go_wp2_with fail
         refine CO5.out.mono ?_
         rintro e W5 ⟨rfl, rfl⟩
         have RN : Hid (R = (shelvesOk ok (pairs (wk ++ [⟨.slice kp KL kc, kids, true⟩])) && everyTs ok true (lst.drop (i + 1))) ∧ wNS (wk ++ [⟨.slice kp KL kc, kids, true⟩]) + wTs (lst.drop (i + 1)) ≤ wNS rest + wTs lst) := hid ⟨by rw [HR1.out, pairs_snoc, shelvesOk_append]; simp [shelvesOk, Bool.and_assoc], by rw [wNS_app]; simp only [wNS]; omega⟩
         have SN : Hid (∀ s ∈ wk ++ [(⟨.slice kp KL kc, kids, true⟩ : NSh)], okN Wm s) := hid (fun s hs => (List.mem_append.1 hs).elim (HSi.out s) (fun h => by rw [List.mem_singleton] at h; rw [h]; exact HK.out))
         clear HR1 HBB
         go_wp2_with (at_builtin; go_loud (refine wpList_append_own_at _ rfl _ _ 93 rfl (w.heap.size + 2) 92 i0 _ 2 32 Tryz.underlying93 hinf hz0 hz1 hz2 rfl (by decide) _ _ _ rfl O6.out ⟨wr.heap.size + 1, 0, none⟩ 1 1 [.slice kp KL kc, .bool true] rfl rfl XC.out ?c2 ?c3 ?c4 HSZ.out ?_))
         case c2 => simp [Value.oneCell']
         case c3 => unfold maxLen; omega
         case c4 => omega
         intro v'' W6 hown' hgrow _ hat
         have K1 : Hid (W6.ownsRow (w.heap.size + 2) 92 2 v'' (wk ++ [(⟨.slice kp KL kc, kids, true⟩ : NSh)]).length (nsRow (wk ++ [(⟨.slice kp KL kc, kids, true⟩ : NSh)]))) := hid (by rw [List.length_append, nsRow_snoc]; exact hown')
         have hrowb : ∀ j, (Value.ownBlock _ = some j) → w.heap.size + 2 ≤ j := fun j hj => (O6.out.lt j hj).1
         have K2 := hid (P6.out.grown hgrow HSZ.out hrowb)
         have hlbs := World.block_lt_of_cell? _ _ (box_get XL6.out (j := 0) rfl)
         have K4 : Hid (BoxAt W6 lb [.slice (some ⟨b, off, none⟩) L qc, .bool true]) := hid fun j u hj => (World.cell?_of_block (a := ⟨lb, j, none⟩) (hgrow.block lb hlbs (fun e => HWi.out e.symm))).trans (XL6.out j u hj)
         have K5 : Hid (v''.ownBlock ≠ some lb) := hid fun e => by
          rcases hat with h | h
          ·exact HWi.out (h.symm.trans e)
          ·rw [h] at e
           injection e with e
           have hlbs' := HLB.out
           omega
         clear hown' hgrow hat hrowb hlbs O6 P6 XL6 XC
         go_wp2_with fail
         go_roundg (gk - 1)
         case measure => omega
         case rel => exact ⟨i + 1, _, by go_num, by omega, by omega, K1, K5, SN, K2, K4, RN⟩

      | false =>
       rw [hk4] at HR1
       cases ins with
       | false =>
        cases hk2 : (k == 2) with
        | false =>
         have hbf : bb = false := by rw [← HBB.out]; simp [inK, hk4, hk2]
         subst hbf
         have RN : Hid (R = (shelvesOk ok (pairs (wk ++ [⟨.slice kp KL kc, kids, false⟩])) && everyTs ok false (lst.drop (i + 1))) ∧ wNS (wk ++ [⟨.slice kp KL kc, kids, false⟩]) + wTs (lst.drop (i + 1)) ≤ wNS rest + wTs lst) := hid ⟨by rw [HR1.out, pairs_snoc, shelvesOk_append]; simp [shelvesOk, Bool.and_assoc], by rw [wNS_app]; simp only [wNS]; omega⟩
         have SN : Hid (∀ s ∈ wk ++ [(⟨.slice kp KL kc, kids, false⟩ : NSh)], okN Wm s) := hid (fun s hs => (List.mem_append.1 hs).elim (HSi.out s) (fun h => by rw [List.mem_singleton] at h; rw [h]; exact HK.out))
         clear HR1 HBB
         go_wp2_with (at_builtin; go_loud (refine wpList_append_own_at _ rfl _ _ 93 rfl (w.heap.size + 2) 92 i0 _ 2 32 Tryz.underlying93 hinf hz0 hz1 hz2 rfl (by decide) _ _ _ rfl O6.out ⟨wr.heap.size + 1, 0, none⟩ 1 1 [.slice kp KL kc, .bool false] rfl rfl XC.out ?c2 ?c3 ?c4 HSZ.out ?_))
         case c2 => simp [Value.oneCell']
         case c3 => unfold maxLen; omega
         case c4 => omega
         intro v'' W6 hown' hgrow _ hat
         have K1 : Hid (W6.ownsRow (w.heap.size + 2) 92 2 v'' (wk ++ [(⟨.slice kp KL kc, kids, false⟩ : NSh)]).length (nsRow (wk ++ [(⟨.slice kp KL kc, kids, false⟩ : NSh)]))) := hid (by rw [List.length_append, nsRow_snoc]; exact hown')
         have hrowb : ∀ j, (Value.ownBlock _ = some j) → w.heap.size + 2 ≤ j := fun j hj => (O6.out.lt j hj).1
         have K2 := hid (P6.out.grown hgrow HSZ.out hrowb)
         have hlbs := World.block_lt_of_cell? _ _ (box_get XL6.out (j := 0) rfl)
         have K4 : Hid (BoxAt W6 lb [.slice (some ⟨b, off, none⟩) L qc, .bool false]) := hid fun j u hj => (World.cell?_of_block (a := ⟨lb, j, none⟩) (hgrow.block lb hlbs (fun e => HWi.out e.symm))).trans (XL6.out j u hj)
         have K5 : Hid (v''.ownBlock ≠ some lb) := hid fun e => by
          rcases hat with h | h
          ·exact HWi.out (h.symm.trans e)
          ·rw [h] at e
           injection e with e
           have hlbs' := HLB.out
           omega
         clear hown' hgrow hat hrowb hlbs O6 P6 XL6 XC
         go_wp2_with fail
         go_roundg (gk - 1)
         case measure => omega
         case rel => exact ⟨i + 1, _, by go_num, by omega, by omega, K1, K5, SN, K2, K4, RN⟩

        | true =>
         have hbt : bb = true := by rw [← HBB.out]; simp [inK, hk2]
         subst hbt
         have RN : Hid (R = (shelvesOk ok (pairs (wk ++ [⟨.slice kp KL kc, kids, true⟩])) && everyTs ok false (lst.drop (i + 1))) ∧ wNS (wk ++ [⟨.slice kp KL kc, kids, true⟩]) + wTs (lst.drop (i + 1)) ≤ wNS rest + wTs lst) := hid ⟨by rw [HR1.out, pairs_snoc, shelvesOk_append]; simp [shelvesOk, Bool.and_assoc], by rw [wNS_app]; simp only [wNS]; omega⟩
         have SN : Hid (∀ s ∈ wk ++ [(⟨.slice kp KL kc, kids, true⟩ : NSh)], okN Wm s) := hid (fun s hs => (List.mem_append.1 hs).elim (HSi.out s) (fun h => by rw [List.mem_singleton] at h; rw [h]; exact HK.out))
         clear HR1 HBB
         go_wp2_with (at_builtin; go_loud (refine wpList_append_own_at _ rfl _ _ 93 rfl (w.heap.size + 2) 92 i0 _ 2 32 Tryz.underlying93 hinf hz0 hz1 hz2 rfl (by decide) _ _ _ rfl O6.out ⟨wr.heap.size + 1, 0, none⟩ 1 1 [.slice kp KL kc, .bool true] rfl rfl XC.out ?c2 ?c3 ?c4 HSZ.out ?_))
         case c2 => simp [Value.oneCell']
         case c3 => unfold maxLen; omega
         case c4 => omega
         intro v'' W6 hown' hgrow _ hat
         have K1 : Hid (W6.ownsRow (w.heap.size + 2) 92 2 v'' (wk ++ [(⟨.slice kp KL kc, kids, true⟩ : NSh)]).length (nsRow (wk ++ [(⟨.slice kp KL kc, kids, true⟩ : NSh)]))) := hid (by rw [List.length_append, nsRow_snoc]; exact hown')
         have hrowb : ∀ j, (Value.ownBlock _ = some j) → w.heap.size + 2 ≤ j := fun j hj => (O6.out.lt j hj).1
         have K2 := hid (P6.out.grown hgrow HSZ.out hrowb)
         have hlbs := World.block_lt_of_cell? _ _ (box_get XL6.out (j := 0) rfl)
         have K4 : Hid (BoxAt W6 lb [.slice (some ⟨b, off, none⟩) L qc, .bool false]) := hid fun j u hj => (World.cell?_of_block (a := ⟨lb, j, none⟩) (hgrow.block lb hlbs (fun e => HWi.out e.symm))).trans (XL6.out j u hj)
         have K5 : Hid (v''.ownBlock ≠ some lb) := hid fun e => by
          rcases hat with h | h
          ·exact HWi.out (h.symm.trans e)
          ·rw [h] at e
           injection e with e
           have hlbs' := HLB.out
           omega
         clear hown' hgrow hat hrowb hlbs O6 P6 XL6 XC
         go_wp2_with fail
         go_roundg (gk - 1)
         case measure => omega
         case rel => exact ⟨i + 1, _, by go_num, by omega, by omega, K1, K5, SN, K2, K4, RN⟩

       | true =>
        have hbt : bb = true := by rw [← HBB.out]; simp
        subst hbt
        have RN : Hid (R = (shelvesOk ok (pairs (wk ++ [⟨.slice kp KL kc, kids, true⟩])) && everyTs ok true (lst.drop (i + 1))) ∧ wNS (wk ++ [⟨.slice kp KL kc, kids, true⟩]) + wTs (lst.drop (i + 1)) ≤ wNS rest + wTs lst) := hid ⟨by rw [HR1.out, pairs_snoc, shelvesOk_append]; simp [shelvesOk, Bool.and_assoc], by rw [wNS_app]; simp only [wNS]; omega⟩
        have SN : Hid (∀ s ∈ wk ++ [(⟨.slice kp KL kc, kids, true⟩ : NSh)], okN Wm s) := hid (fun s hs => (List.mem_append.1 hs).elim (HSi.out s) (fun h => by rw [List.mem_singleton] at h; rw [h]; exact HK.out))
        clear HR1 HBB
        go_wp2_with (at_builtin; go_loud (refine wpList_append_own_at _ rfl _ _ 93 rfl (w.heap.size + 2) 92 i0 _ 2 32 Tryz.underlying93 hinf hz0 hz1 hz2 rfl (by decide) _ _ _ rfl O6.out ⟨wr.heap.size + 1, 0, none⟩ 1 1 [.slice kp KL kc, .bool true] rfl rfl XC.out ?c2 ?c3 ?c4 HSZ.out ?_))
        case c2 => simp [Value.oneCell']
        case c3 => unfold maxLen; omega
        case c4 => omega
        intro v'' W6 hown' hgrow _ hat
        have K1 : Hid (W6.ownsRow (w.heap.size + 2) 92 2 v'' (wk ++ [(⟨.slice kp KL kc, kids, true⟩ : NSh)]).length (nsRow (wk ++ [(⟨.slice kp KL kc, kids, true⟩ : NSh)]))) := hid (by rw [List.length_append, nsRow_snoc]; exact hown')
        have hrowb : ∀ j, (Value.ownBlock _ = some j) → w.heap.size + 2 ≤ j := fun j hj => (O6.out.lt j hj).1
        have K2 := hid (P6.out.grown hgrow HSZ.out hrowb)
        have hlbs := World.block_lt_of_cell? _ _ (box_get XL6.out (j := 0) rfl)
        have K4 : Hid (BoxAt W6 lb [.slice (some ⟨b, off, none⟩) L qc, .bool true]) := hid fun j u hj => (World.cell?_of_block (a := ⟨lb, j, none⟩) (hgrow.block lb hlbs (fun e => HWi.out e.symm))).trans (XL6.out j u hj)
        have K5 : Hid (v''.ownBlock ≠ some lb) := hid fun e => by
         rcases hat with h | h
         ·exact HWi.out (h.symm.trans e)
         ·rw [h] at e
          injection e with e
          have hlbs' := HLB.out
          omega
        clear hown' hgrow hat hrowb hlbs O6 P6 XL6 XC
        go_wp2_with fail
        go_roundg (gk - 1)
        case measure => omega
        case rel => exact ⟨i + 1, _, by go_num, by omega, by omega, K1, K5, SN, K2, K4, RN⟩
    ·obtain rfl : i = L := by omega
     obtain ⟨hr1, hw1'⟩ := HRi.out
     rw [drop_len (by rw [HL.out]; exact Nat.le_refl _)] at hr1 hw1'
     have K : Hid (R = shelvesOk ok (pairs wk)) := hid (by rw [hr1]; simp [everyTs])
     have hw2 : wNS wk ≤ go - 1 ∧ wNS wk ≤ 1048577 ∧ 0 < go := by simp only [wTs] at hw1'; omega
     clear hr1 hw1' HRi
     go_wp2_with fail
     go_roundg (go - 1)
     case measure => omega
     case rel => exact ⟨wk, HOi, HSi, K, hw2.1, hw2.2.1, HPi⟩
end Go.Proofs.YtemflcojebanlaaGreatDoor.NmC
