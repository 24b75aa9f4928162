/- Texts joined: EnvN, EnvO, EnvQ, EnvV. -/
import Derived.Test.YtannfhbocfghkaaJ06
import Derived.Test.YtannfhbocfghkaaJ05
/- The stack of pairs. Contract of env.Fits. -/
namespace Go.Proofs.Ytannfhbocfghkaa.EnvC
open Go Go.RowKit Go.Shelf Go.Lib Go.Sort Go.Proofs.Ytannfhbocfghkaa.EnvP
attribute [local go_sem] Oper.semAt_some

mutual
def allQ (q : ETy → ETy → Bool) : ETy → ETy → Bool
  | .mk k m g lv ls kv kids, .mk k' m' g' lv' ls' kv' kids' => q (.mk k m g lv ls kv kids) (.mk k' m' g' lv' ls' kv' kids') && allQs q kids kids'
def allQs (q : ETy → ETy → Bool) : List ETy → List ETy → Bool
  | t :: ts, u :: us => allQ q t u && allQs q ts us
  | _, _ => true
end
theorem allQs_all (q : ETy → ETy → Bool) : ∀ l m : List ETy, allQs q l m = (l.zip m).all fun p => allQ q p.1 p.2
  | [], m => by simp [allQs]
  | t :: ts, [] => by simp [allQs]
  | t :: ts, u :: us => by rw [allQs, List.zip_cons_cons, List.all_cons, allQs_all q ts us]
mutual
theorem fits_all : ∀ t u : ETy, allQ fitP t u = fitsT t u
  | .mk k m g lv ls kv kids, .mk k' m' g' lv' ls' kv' kids' => by
    rw [allQ, fitsT, fits_alls kids kids']; rfl
theorem fits_alls : ∀ l m : List ETy, allQs fitP l m = fitsTs l m
  | [], m => by simp [allQs, fitsTs]
  | t :: ts, [] => by simp [allQs, fitsTs]
  | t :: ts, u :: us => by rw [allQs, fitsTs, fits_all t u, fits_alls ts us]
end
mutual
theorem less_all : ∀ t u : ETy, allQ leP t u = lessT t u
  | .mk k m g lv ls kv kids, .mk k' m' g' lv' ls' kv' kids' => by
    rw [allQ, lessT, less_alls kids kids']
    show ((!g || g') && ls.all (has ls') && _) = _
    cases g <;> cases g' <;> cases ls.all (has ls') <;> cases lessTs kids kids' <;> rfl
theorem less_alls : ∀ l m : List ETy, allQs leP l m = lessTs l m
  | [], m => by simp [allQs, lessTs]
  | t :: ts, [] => by simp [allQs, lessTs]
  | t :: ts, u :: us => by rw [allQs, lessTs, less_all t u, less_alls ts us]
end
def stAll2 (q : ETy → ETy → Bool) (st : List Pr) : Bool := st.all fun x => allQ q x.t x.u
theorem stAll2_step (q : ETy → ETy → Bool) (x : Pr) (r : List Pr) : stAll2 q (x :: r) = (q x.t x.u && stAll2 q (x.kids ++ r)) := by
  unfold stAll2
  rw [List.all_cons, List.all_append]
  obtain ⟨b, o, ⟨k, m, g, lv, ls, kv, kids⟩, c, d, ⟨k', m', g', lv', ls', kv', kids'⟩⟩ := x
  have e := all_mapIdx (fun x : Pr => allQ q x.t x.u) (fun p : ETy × ETy => allQ q p.1 p.2) (kids.zip kids') (Pr.kid ⟨b, o, .mk k m g lv ls kv kids, c, d, .mk k' m' g' lv' ls' kv' kids'⟩) (fun _ _ => rfl)
  show (allQ q (.mk k m g lv ls kv kids) (.mk k' m' g' lv' ls' kv' kids') && _) = (q _ _ && (((kids.zip kids').mapIdx _).all _ && _))
  rw [e, allQ, allQs_all, Bool.and_assoc]
theorem tyAt_kid {w : World} {k : Int} {m g : Bool} {lv : Value} {ls : List Ln} {kv : Value} {kids : List ETy} (h : (ETy.mk k m g lv ls kv kids).In w) {j : Nat} {y : ETy} (hj : kids[j]? = some y) : TyAt w (kidAt kv j).1 (kidAt kv j).2 y := by
  rw [ETy.In] at h
  obtain ⟨b', off, cap, e, _, hx⟩ := Lies.at h.2.2.1 (i := j) (by rw [List.length_map]; exact (List.getElem?_eq_some_iff.1 hj).1)
  refine ⟨fun a u hu => ?_, (ETy.ins_iff w kids).1 h.2.2.2 _ (List.mem_of_getElem? hj)⟩
  have := hx j (ETy.cells y) (by rw [List.getElem?_map, hj]; rfl) a u hu
  rw [e]
  exact this
theorem mem_kids {x y : Pr} (h : y ∈ x.kids) : ∃ j t u, x.t.kids[j]? = some t ∧ x.u.kids[j]? = some u ∧ y = x.kid j (t, u) := by
  unfold Pr.kids at h
  obtain ⟨j, hj, rfl⟩ := List.mem_mapIdx.1 h
  rw [List.length_zip] at hj
  refine ⟨j, x.t.kids[j]'(by omega), x.u.kids[j]'(by omega), List.getElem?_eq_getElem _, List.getElem?_eq_getElem _, ?_⟩
  rw [List.getElem_zip]
theorem prOk_kids {w : World} {x : Pr} (h : PrOk w x) : ∀ y ∈ x.kids, PrOk w y := by
  intro y hy
  obtain ⟨j, t, u, ht, hu, rfl⟩ := mem_kids hy
  obtain ⟨b, o, ⟨k, m, g, lv, ls, kv, kids⟩, c, d, ⟨k', m', g', lv', ls', kv', kids'⟩⟩ := x
  exact ⟨tyAt_kid h.1.2 ht, tyAt_kid h.2.1.2 hu, h.2.2.1.kids.2 t (List.mem_of_getElem? ht), h.2.2.2.kids.2 u (List.mem_of_getElem? hu)⟩
theorem PrOk.keep {w w' : World} {x : Pr} (h : PrOk w x) (k : Keeps w w') : PrOk w' x := ⟨h.1.keep k, h.2.1.keep k, h.2.2⟩
theorem fitP_len {t u : ETy} (h : fitP t u = true) : t.kids.length = u.kids.length := by
  unfold fitP at h
  simp at h
  exact h.2

set_option maxHeartbeats 4000000 in
set_option maxRecDepth 100000 in
theorem fits_any (t u : ETy) (w : World) (ht : t.In w) (hu : u.In w) (hst : Small t) (hsu : Small u) :
    Calls Try.prog 41 #[.agg t.cells.toArray, .agg u.cells.toArray] w fun r w' => r = .returned (.bool (fitsT t u)) ∧ Below w.heap.size w w' := by
  obtain ⟨R, hR⟩ : ∃ R, fitsT t u = R := ⟨_, rfl⟩
  rw [hR]
  rw [← fits_all] at hR
  have hb1 : Below w.heap.size w ((w.alloc (.cells t.cells.toArray 43 (0, 0))).alloc (.cells u.cells.toArray 43 (0, 0))) := ((Below.refl _ _).alloc (Nat.le_refl _) _).alloc (by simp) _
  have X1 : BoxAt ((w.alloc (.cells t.cells.toArray 43 (0, 0))).alloc (.cells u.cells.toArray 43 (0, 0))) w.heap.size t.cells := (BoxAt.new w _ _).later ((Below.refl _ _).alloc (Nat.le_refl _) _)
  have X2 : BoxAt ((w.alloc (.cells t.cells.toArray 43 (0, 0))).alloc (.cells u.cells.toArray 43 (0, 0))) (w.heap.size + 1) u.cells := by
    have := BoxAt.new (w.alloc (.cells t.cells.toArray 43 (0, 0))) u.cells 43
    rwa [World.size_alloc] at this
  have hok : PrOk ((w.alloc (.cells t.cells.toArray 43 (0, 0))).alloc (.cells u.cells.toArray 43 (0, 0))) ⟨w.heap.size, 0, t, w.heap.size + 1, 0, u⟩ :=
    ⟨⟨fun j v h => by show World.cell? _ ⟨_, 0 + j, none⟩ = _; rw [Nat.zero_add]; exact X1 j v h, ETy.In.keep (Keeps.of_below hb1) t ht⟩, ⟨fun j v h => by show World.cell? _ ⟨_, 0 + j, none⟩ = _; rw [Nat.zero_add]; exact X2 j v h, ETy.In.keep (Keeps.of_below hb1) u hu⟩, hst, hsu⟩
  have hnt : nT t ≤ 1048576 := Nat.le_trans (nT_le _) hst
  have HR := hid hR
  have HOK := hid hok
  have HB1 := hid hb1
  have HS1 : Hid (((w.alloc (.cells t.cells.toArray 43 (0, 0))).alloc (.cells u.cells.toArray 43 (0, 0))).heap.size = w.heap.size + 2) := hid (by simp)
  clear hR hb1 X1 X2 hok ht hu hst hsu
  refine callsIn_wide (n := 12) |>.1 (callsIn_of_wp_marks Try.func41 rfl trivial ?_ rfl)
  simp only [Try.ntmps41, List.size_toArray, List.length_cons, List.length_nil, Nat.reduceAdd, Nat.reduceSub, Array.replicate_succ, Array.replicate_zero, List.push_toArray, List.append_toArray, List.nil_append, List.cons_append]
  gi_wp2
  generalize World.alloc (World.alloc w _) _ = V2 at *
  have hb3 : Below V2.heap.size V2 (V2.alloc (.cells #[.bool false] 4 (0, 0))) := (Below.refl _ _).alloc (Nat.le_refl _) _
  have X3 := Boxed.new V2 4 (.bool false)
  rw [HS1.out] at X3
  change Boxed (V2.alloc (.cells #[.bool false] 4 (0, 0))) (w.heap.size + 1 + 1) _ _ at X3
  have HB3 := hid (HB1.out.trans (hb3.mono (by rw [HS1.out]; omega)))
  have HOK3 := hid (HOK.out.keep (Keeps.of_below hb3))
  generalize World.alloc V2 _ = V3 at *
  have HX3 := hid X3
  clear hb3 X3 HB1 HOK HS1
  refine ⟨trivial, callsIn_wide.2 ((all_Pr ⟨w.heap.size, 0, t, w.heap.size + 1, 0, u⟩ V3).mono ?_)⟩
  rintro e1 W2 ⟨rfl, hb2, h1, h2, hsz⟩
  have HX2 := hid (boxed_below HX3.out hb2)
  have HB2 := hid (HB3.out.trans (hb2.mono HB3.out.size))
  have HOK2 := hid (HOK3.out.keep (Keeps.of_below hb2))
  have HS2 : Hid (w.heap.size + 1 + 1 < W2.heap.size) := hid HX2.out.lt
  clear hb2 HX3 HB3 HOK3
  gi_wp2
  refine range_of (n := 12) rfl (by omega) (gf := 54) rfl trivial (enters_of Try.func54 (by kernel_rfl) rfl)
    (walks_Pr 11 (by omega) ⟨w.heap.size, 0, t, w.heap.size + 1, 0, u⟩ V3.heap.size (V3.heap.size + 1) W2 h1 h2 hnt) (Below.refl _ _) rfl (fun A B x ks h hc => h.keep hc.keeps)
    (fun st W => Below W2.heap.size W2 W ∧ (∀ y ∈ st, PrOk W2 y) ∧ stAll2 fitP st = R)
    (fun W => Below w.heap.size w W ∧ Boxed W (w.heap.size + 1 + 1) 4 (.bool false) ∧ W2.heap.size ≤ W.heap.size ∧ R = false)
    (fun st A B h k => ⟨h.1.trans (k.below h.1.size), h.2⟩)
    (fun A B h k => ⟨h.1.trans ((k.below h.2.2.1).mono (by have := HS2.out; omega)), k.boxed h.2.1 HS2.out, Nat.le_trans h.2.2.1 k.size, h.2.2.2⟩)
    ⟨Below.refl _ _, fun y hy => by rw [List.mem_singleton] at hy; subst hy; exact HOK2.out, by rw [← HR.out]; unfold stAll2; rw [List.all_cons, List.all_nil, Bool.and_true]⟩ ?round ?done ?stop
  case round =>
    rintro l y r W ⟨hB, hok, heq⟩
    have hoy := hok y List.mem_cons_self
    rw [stAll2_step fitP y r] at heq
    have hok2 : ∀ z ∈ y.kids ++ r, PrOk W2 z := fun z hz => (List.mem_append.1 hz).elim (fun h => prOk_kids hoy z h) (fun h => hok z (List.mem_cons_of_mem _ h))
    rw [show y.cells.toArray = #[.pointer (some ⟨y.b, y.o, none⟩), .pointer (some ⟨y.c, y.q, none⟩)] from rfl]
    have hbx : Below W.heap.size W (W.alloc (.cells #[.pointer (some ⟨y.b, y.o, none⟩), .pointer (some ⟨y.c, y.q, none⟩)] 68 (0, 0))) := (Below.refl _ _).alloc (Nat.le_refl _) _
    have hnew := World.alloc_heap_new W (.cells #[.pointer (some ⟨y.b, y.o, none⟩), .pointer (some ⟨y.c, y.q, none⟩)] 68 (0, 0))
    have HBX := hid hbx
    have HNEW := hid hnew
    have HBW := hid hB
    have HOY := hid hoy
    have HOKK := hid hok2
    have HEQ := hid heq
    clear hbx hnew hB hoy hok hok2 heq
    gi_wp2
    refine ⟨Below.keepsFrom HBX.out _, (Below.cellsSame HBX.out).types, fun W4 hb4 hc4 => ?_⟩
    have hn4 := hc4 _ _ HNEW.out rfl
    have d0 : W4.cell? ⟨W.heap.size, 0, none⟩ = some (.pointer (some ⟨y.b, y.o, none⟩)) := by rw [Lib.cell_of_heap hn4]; rfl
    have d1 : W4.cell? ⟨W.heap.size, 1, none⟩ = some (.pointer (some ⟨y.c, y.q, none⟩)) := by rw [Lib.cell_of_heap hn4]; rfl
    have HB4 := hid ((HBW.out.trans (HBX.out.mono HBW.out.size)).trans hb4)
    have HOY4 := hid (HOY.out.keep (Keeps.of_below HB4.out))
    have HC := hid (CallsIn.inRound l (callsIn_wide (n := 9) |>.2 (fitsP_any y W4 HOY4.out)))
    have HLEN := hid (fitP_len (t := y.t) (u := y.u))
    clear HBX HNEW HBW hb4 hc4 hn4 HOY
    generalize fitP y.t y.u = qq at *
    gi_wp2
    refine ⟨trivial, HC.out.mono ?_⟩
    rintro e5 W5 ⟨rfl, hb5⟩
    have HB5 := hid (HB4.out.trans (hb5.mono HB4.out.size))
    have HOY5 := hid (HOY4.out.keep (Keeps.of_below hb5))
    have hx5 := boxed_below HX2.out HB5.out
    have hc5 := hx5.cell
    have hf5 := hx5.frozen
    have HX5 := hid hx5
    have HK5 := hid hb5
    clear HC hb5 hx5 d0 d1
    cases qq
    · have HR0 : Hid (R = false) := hid (by rw [← HEQ.out]; rfl)
      gi_wp2
      refine ⟨(Below.keepsFrom HK5.out _).trans (KeepsFrom.of_grownBy (grownBy_setCell' W5 _ _) (fun j e => by cases e; exact HS2.out)), (HB2.out.trans (HB5.out.mono (by have := HS2.out; omega))).setCell (by show w.heap.size ≤ w.heap.size + 1 + 1; omega) _, HX5.out.set _, Nat.le_trans HB5.out.size (by simp [World.setCell]), HR0.out⟩
    · gi_wp2
      exact ⟨Below.keepsFrom HK5.out _, (Below.cellsSame HK5.out).types, y.kids, ⟨HOY5.out.1, HOY5.out.2.1, HOY5.out.2.2.1, by first | exact HLEN.out rfl | exact HLEN.out trivial, rfl⟩, HB5.out, HOKK.out, by have := HEQ.out; simpa using this⟩
  case done =>
    rintro D W hD ⟨hB, _, heq⟩ hdef
    have hx := boxed_below HX2.out hB
    have hc := hx.cell
    have hf := hx.frozen
    have HX := hid hx
    have HBD := hid (HB2.out.trans (hB.mono (by have := HS2.out; omega)))
    have HN : Hid (R = true) := hid (by rw [← heq]; rfl)
    have HDEF := hid hdef
    clear hx hB heq hdef HB2 HX2
    gi_wp2
    exact leaves_marks (b := w.heap.size + 1 + 1 + 1) (by intro e; cases e) _ _ ((Marks.push (ds := []) (B := 0) trivial (by simp) (Nat.zero_le _) (Nat.le_trans HS2.out hD) HDEF.out).set _ _) fun w' hb hc => ⟨_, result_cell rfl _ _ _ _ _ _ _ (hc.boxed (HX.out.set _)) rfl Try.underlying4 rfl, by rw [HN.out], ((HBD.out.setCell (by show w.heap.size ≤ w.heap.size + 1 + 1; omega) _).trans (hb.mono (by omega)))⟩
  case stop =>
    rintro D W hD ⟨hB, hx, hs, rfl⟩ hdef
    clear HB2 HX2
    gi_wp2
    exact leaves_marks (b := w.heap.size + 1 + 1 + 1) (by intro e; cases e) _ _ (Marks.push (ds := []) (B := 0) trivial (by simp) (Nat.zero_le _) (Nat.le_trans HS2.out hD) hdef) fun w' hb hc => ⟨_, result_cell rfl _ _ _ _ _ _ _ (hc.boxed hx) rfl Try.underlying4 rfl, rfl, hB.trans (hb.mono (by omega))⟩
end Go.Proofs.Ytannfhbocfghkaa.EnvC
/- Contracts of env.match. -/
namespace Go.Proofs.Ytannfhbocfghkaa.EnvC
open Go Go.RowKit Go.Shelf Go.Lib Go.Sort Go.Proofs.Ytannfhbocfghkaa.EnvP

def fitB (x y : Bd) : Bool := bs x.name == bs y.name && fitsT x.ty y.ty
set_option maxHeartbeats 4000000 in
set_option maxRecDepth 100000 in
theorem match1_any (x y : Bd) (w : World) (hx : x.ty.In w) (hy : y.ty.In w) (hsx : Small x.ty) (hsy : Small y.ty) :
    Calls Try.prog 40 #[.agg x.cells.toArray, .agg y.cells.toArray] w fun r w' => r = .returned (.bool (fitB x y)) ∧ Below w.heap.size w w' := by
  obtain ⟨R, hR⟩ : ∃ R, fitB x y = R := ⟨_, rfl⟩
  rw [hR]
  unfold fitB at hR
  obtain ⟨nx, tx⟩ := x
  obtain ⟨ny, ty⟩ := y
  have c1 := fun (W : World) (hb : Below w.heap.size w W) => fits_any tx ty W (ETy.In.keep (Keeps.of_below hb) tx hx) (ETy.In.keep (Keeps.of_below hb) ty hy) hsx hsy
  obtain ⟨k, m, g, lv, ls, kv, kids⟩ := tx
  obtain ⟨k', m', g', lv', ls', kv', kids'⟩ := ty
  rw [ETy.In] at hx hy
  have l1 := slice_one hx.1
  have l2 := slice_one hx.2.2.1
  have l3 := slice_one hy.1
  have l4 := slice_one hy.2.2.1
  clear hx hy hsx hsy
  change Calls _ _ #[.agg #[.string nx, .int .i64 k, .bool m, .bool g, lv, kv], .agg #[.string ny, .int .i64 k', .bool m', .bool g', lv', kv']] _ _
  change ∀ W, Below w.heap.size w W → Calls _ _ #[.agg #[.int .i64 k, .bool m, .bool g, lv, kv], .agg #[.int .i64 k', .bool m', .bool g', lv', kv']] _ _ at c1
  dsimp only at *
  generalize fitsT _ _ = q at *
  have B0 : Below w.heap.size w ((w.alloc (.cells #[.string nx, .int .i64 k, .bool m, .bool g, lv, kv] 45 (0, 0))).alloc (.cells #[.string ny, .int .i64 k', .bool m', .bool g', lv', kv'] 45 (0, 0))) := ((Below.refl _ _).alloc (Nat.le_refl _) _).alloc (by simp) _
  have X1 : BoxAt ((w.alloc (.cells #[.string nx, .int .i64 k, .bool m, .bool g, lv, kv] 45 (0, 0))).alloc (.cells #[.string ny, .int .i64 k', .bool m', .bool g', lv', kv'] 45 (0, 0))) w.heap.size [.string nx, .int .i64 k, .bool m, .bool g, lv, kv] := (BoxAt.new w _ _).later ((Below.refl _ _).alloc (Nat.le_refl _) _)
  have X2 : BoxAt ((w.alloc (.cells #[.string nx, .int .i64 k, .bool m, .bool g, lv, kv] 45 (0, 0))).alloc (.cells #[.string ny, .int .i64 k', .bool m', .bool g', lv', kv'] 45 (0, 0))) (w.heap.size + 1) [.string ny, .int .i64 k', .bool m', .bool g', lv', kv'] := by
    have := BoxAt.new (w.alloc (.cells #[.string nx, .int .i64 k, .bool m, .bool g, lv, kv] 45 (0, 0))) [.string ny, .int .i64 k', .bool m', .bool g', lv', kv'] 45
    rwa [World.size_alloc] at this
  have x4 := X1 4 lv rfl
  have x5 := X1 5 kv rfl
  have y4 := X2 4 lv' rfl
  have y5 := X2 5 kv' rfl
  have C1 := hid (c1 _ B0)
  have H0 := hid B0
  have HR : Hid (((nx.toList == ny.toList) && q) = R) := hid (by rw [Lib.toList_data, Lib.toList_data]; exact hR)
  clear c1 hR B0 X1 X2
  cases hn : (nx.toList == ny.toList)
  · have HN : Hid (R = false) := hid (by rw [← HR.out, hn]; rfl)
    clear HR C1
    go_enter Try.func40, Try.ntmps40
    go_wp2_with fail
    go_ret
    exact ⟨ret_bool HN.out.symm, H0.out⟩
  · have HN : Hid (R = q) := hid (by rw [← HR.out, hn]; rfl)
    clear HR
    go_enter Try.func40, Try.ntmps40
    go_wp2_with fail
    with_reducible refine C1.out.mono ?_
    rintro e W ⟨rfl, hb⟩
    have H1 := hid (H0.out.trans (hb.mono H0.out.size))
    clear C1 hb H0 x4 x5 y4 y5
    go_wp2_with fail
    go_ret
    exact ⟨ret_bool HN.out.symm, H1.out⟩

def allB (l m : List Bd) : Bool := (l.zip m).all fun p => fitB p.1 p.2
set_option maxHeartbeats 8000000 in
set_option maxRecDepth 100000 in
theorem equalFunc_any (l m : List Bd) (v u : Value) (w : World) (hl : EnvIn w v l) (hm : EnvIn w u m) (hsl : ∀ b ∈ l, Small b.ty) (hsm : ∀ b ∈ m, Small b.ty) (hll : l.length ≤ 1048576) (hlm : m.length ≤ 1048576) :
    Calls Try.prog 39 #[v, u, .func (.func 40) #[] #[]] w fun r w' => r = .returned (.bool (l.length == m.length && allB l m)) ∧ Below w.heap.size w w' := by
  obtain ⟨R, hR⟩ : ∃ R, (l.length == m.length && allB l m) = R := ⟨_, rfl⟩
  rw [hR]
  obtain ⟨p, cap, hcap, rfl⟩ := lies_slice hl.1
  obtain ⟨p', cap', hcap', rfl⟩ := lies_slice hm.1
  generalize hL : l.length = L at *
  generalize hM : m.length = M at *
  have HR := hid hR
  have HL := hid (And.intro hL hM)
  have HE := hid (And.intro hl hm)
  have HS := hid (And.intro hsl hsm)
  clear hR hL hM hl hm hsl hsm
  have eg : ∀ (args : Array Value) (w : World), (callFunc 40 args).run Try.prog w = .ok (.enter 40 args) w := enters_of Try.func40 (by kernel_rfl) rfl
  by_cases hne : L = M
  · subst hne
    have HA : Hid ((((l.drop 0).zip (m.drop 0)).all fun p => fitB p.1 p.2) = R) := hid (by rw [List.drop_zero, List.drop_zero, ← HR.out]; simp [allB])
    clear HR
    go_enter Try.func39, Try.ntmps39
    go_wp2_with fail
    go_loopg [17] L (fun gf u wx => ∃ i : Nat, u = .int .i64 (i : Int) ∧ i ≤ L ∧ L ≤ i + gf ∧ Hid ((((l.drop i).zip (m.drop i)).all fun p => fitB p.1 p.2) = R) ∧ Hid (Below w.heap.size w wx))
    case atStart => exact ⟨0, rfl, by omega, by omega, HA, hid (Below.refl _ _)⟩
    case round =>
      obtain ⟨i, rfl, hi, hg, HI, HB⟩ := hrel
      clear HA
      by_cases hlt : i < L
      · obtain ⟨x, hx⟩ : ∃ x, l[i]? = some x := ⟨l[i]'(by rw [HL.out.1]; exact hlt), List.getElem?_eq_getElem _⟩
        obtain ⟨y, hy⟩ : ∃ y, m[i]? = some y := ⟨m[i]'(by rw [HL.out.2]; exact hlt), List.getElem?_eq_getElem _⟩
        have kk := Keeps.of_below HB.out
        obtain ⟨b, off, c0, e, _, hxx⟩ := Lies.at (HE.out.1.1.keep kk) (i := i) (by rw [List.length_map, HL.out.1]; exact hlt)
        injection e with e1 e2 e3
        subst e1
        obtain ⟨b', off', c0', e', _, hyy⟩ := Lies.at (HE.out.2.1.keep kk) (i := i) (by rw [List.length_map, HL.out.2]; exact hlt)
        injection e' with e1' e2' e3'
        subst e1'
        clear e2 e3 e2' e3'
        have hxc := hxx i x.cells (by rw [List.getElem?_map, hx]; rfl)
        have hyc := hyy i y.cells (by rw [List.getElem?_map, hy]; rfl)
        have hix := ETy.In.keep kk _ (HE.out.1.2 x (List.mem_of_getElem? hx))
        have hiy := ETy.In.keep kk _ (HE.out.2.2 y (List.mem_of_getElem? hy))
        have c1 := fun (W : World) (hb : Below wr.heap.size wr W) => match1_any x y W (ETy.In.keep (Keeps.of_below hb) _ hix) (ETy.In.keep (Keeps.of_below hb) _ hiy) (HS.out.1 x (List.mem_of_getElem? hx)) (HS.out.2 y (List.mem_of_getElem? hy))
        have hp := HI.out
        rw [drop_cons hx, drop_cons hy, List.zip_cons_cons, List.all_cons] at hp
        dsimp only at hp
        generalize fitB x y = q at *
        obtain ⟨nx, ⟨k, mm, g, lv, ls, kv, kids⟩⟩ := x
        obtain ⟨ny, ⟨k', mm', g', lv', ls', kv', kids'⟩⟩ := y
        rw [ETy.In] at hix hiy
        obtain ⟨p1, q1, _, e1⟩ := lies_slice hix.1
        obtain ⟨p2, q2, _, e2⟩ := lies_slice hix.2.2.1
        obtain ⟨p3, q3, _, e3⟩ := lies_slice hiy.1
        obtain ⟨p4, q4, _, e4⟩ := lies_slice hiy.2.2.1
        subst e1 e2 e3 e4
        generalize ls.length = n1 at *
        generalize kids.length = n2 at *
        generalize ls'.length = n3 at *
        generalize kids'.length = n4 at *
        have bA : Below wr.heap.size wr (wr.alloc (.cells #[.string nx, .int .i64 k, .bool mm, .bool g, .slice p1 n1 q1, .slice p2 n2 q2] 45 (0, 0))) := (Below.refl _ _).alloc (Nat.le_refl _) _
        have bB : Below wr.heap.size wr ((wr.alloc (.cells #[.string nx, .int .i64 k, .bool mm, .bool g, .slice p1 n1 q1, .slice p2 n2 q2] 45 (0, 0))).alloc (.cells #[.string ny, .int .i64 k', .bool mm', .bool g', .slice p3 n3 q3, .slice p4 n4 q4] 45 (0, 0))) := bA.alloc (by simp) _
        have C1 := hid (c1 _ bB)
        change Hid (Calls _ _ #[.agg #[.string nx, .int .i64 k, .bool mm, .bool g, .slice p1 n1 q1, .slice p2 n2 q2], .agg #[.string ny, .int .i64 k', .bool mm', .bool g', .slice p3 n3 q3, .slice p4 n4 q4]] _ _) at C1
        have x0 := hxc 0 (.string nx) rfl
        have x1 := hxc 1 (.int .i64 k) rfl
        have x2 := hxc 2 (.bool mm) rfl
        have x3 := hxc 3 (.bool g) rfl
        have x4 := hxc 4 (.slice p1 n1 q1) rfl
        have x5 := hxc 5 (.slice p2 n2 q2) rfl
        have y0 := later bA (hyc 0 (.string ny) rfl)
        have y1 := later bA (hyc 1 (.int .i64 k') rfl)
        have y2 := later bA (hyc 2 (.bool mm') rfl)
        have y3 := later bA (hyc 3 (.bool g') rfl)
        have y4 := later bA (hyc 4 (.slice p3 n3 q3) rfl)
        have y5 := later bA (hyc 5 (.slice p4 n4 q4) rfl)
        rw [Nat.add_zero] at x0 y0
        have X1 : BoxAt ((wr.alloc (.cells #[.string nx, .int .i64 k, .bool mm, .bool g, .slice p1 n1 q1, .slice p2 n2 q2] 45 (0, 0))).alloc (.cells #[.string ny, .int .i64 k', .bool mm', .bool g', .slice p3 n3 q3, .slice p4 n4 q4] 45 (0, 0))) wr.heap.size [.string nx, .int .i64 k, .bool mm, .bool g, .slice p1 n1 q1, .slice p2 n2 q2] := (BoxAt.new wr _ _).later ((Below.refl _ _).alloc (Nat.le_refl _) _)
        have z0 := X1 0 (.string nx) rfl
        have z1 := X1 1 (.int .i64 k) rfl
        have z2 := X1 2 (.bool mm) rfl
        have z3 := X1 3 (.bool g) rfl
        have z4 := X1 4 (.slice p1 n1 q1) rfl
        have z5 := X1 5 (.slice p2 n2 q2) rfl
        have HP := hid hp
        have B2 := hid (HB.out.trans (bB.mono HB.out.size))
        clear hx hy kk hxx hyy hxc hyc hix hiy c1 hp HI X1 bA bB HB
        go_wp2_with fail
        with_reducible refine C1.out.mono ?_
        rintro e W3 ⟨rfl, hb3⟩
        have B3 := hid (B2.out.trans (hb3.mono B2.out.size))
        clear C1 hb3 B2 x0 x1 x2 x3 x4 x5 y0 y1 y2 y3 y4 y5 z0 z1 z2 z3 z4 z5
        cases q
        · have HN : Hid (R = false) := hid (by rw [← HP.out]; rfl)
          go_wp2_with fail
          go_ret
          exact ⟨ret_bool HN.out.symm, B3.out⟩
        · have HN : Hid ((((l.drop (i + 1)).zip (m.drop (i + 1))).all fun p => fitB p.1 p.2) = R) := hid (by rw [← HP.out]; rfl)
          go_wp2_with fail
          go_roundg (gk - 1)
          case measure => omega
          case rel => exact ⟨i + 1, by go_num, by omega, by omega, HN, B3⟩
      · have HN : Hid (R = true) := hid (by rw [← HI.out, List.drop_eq_nil_of_le (by rw [HL.out.1]; omega)]; rfl)
        clear HI HE HS HL
        go_wp2_with fail
        go_ret
        exact ⟨ret_bool HN.out.symm, HB.out⟩
  · have HN : Hid (R = false) := hid (by rw [← HR.out]; simp [hne])
    have hn2 : ((L : Int) != (M : Int)) = true := by simp; omega
    clear HR HE HS HL hne
    go_enter Try.func39, Try.ntmps39
    go_wp2_with fail
    go_ret
    exact ⟨ret_bool HN.out.symm, Below.refl _ _⟩

theorem both_eq (a b : List Bd) : both a b = (right a && right b && (a.length == b.length && allB a b)) := by
  unfold both allB fitB
  cases right a <;> cases right b <;> simp
set_option maxHeartbeats 4000000 in
set_option maxRecDepth 100000 in
theorem match_any (a b : List Bd) (v u : Value) (w : World) (ha : EnvIn w v a) (hb : EnvIn w u b) (hsa : ∀ x ∈ a, Small x.ty) (hsb : ∀ x ∈ b, Small x.ty) (hla : a.length ≤ 1048576) (hlb : b.length ≤ 1048576) :
    Calls Try.prog 28 #[v, u] w fun r w' => r = .returned (.bool (both a b)) ∧ Below w.heap.size w w' := by
  have c1 := rightEnv_any a v w ha hsa hla
  have c2 := fun (W : World) (h : Below w.heap.size w W) => rightEnv_any b u W (hb.keep (Keeps.of_below h)) hsb hlb
  have c3 := fun (W : World) (h : Below w.heap.size w W) => equalFunc_any a b v u W (ha.keep (Keeps.of_below h)) (hb.keep (Keeps.of_below h)) hsa hsb hla hlb
  have hR := both_eq a b
  generalize both a b = R at *
  generalize right a = p1 at *
  generalize right b = p2 at *
  generalize (a.length == b.length && allB a b) = p3 at *
  have C1 := hid c1
  have C2 := hid c2
  have C3 := hid c3
  have HR := hid hR
  clear c1 c2 c3 hR ha hb hsa hsb
  go_enter Try.func28, Try.ntmps28
  go_wp2_with fail
  with_reducible refine C1.out.mono ?_
  rintro e W ⟨rfl, hb1⟩
  have B1 := hid hb1
  clear hb1 C1
  cases p1
  · have HN : Hid (R = false) := hid HR.out
    clear HR C2 C3
    go_wp2_with fail
    go_ret
    exact ⟨ret_bool HN.out.symm, B1.out⟩
  have D2 := hid (C2.out W B1.out)
  go_wp2_with fail
  with_reducible refine D2.out.mono ?_
  rintro e W2 ⟨rfl, hb2⟩
  have B2 := hid (B1.out.trans (hb2.mono B1.out.size))
  clear hb2 D2 C2 B1
  cases p2
  · have HN : Hid (R = false) := hid HR.out
    clear HR C3
    go_wp2_with fail
    go_ret
    exact ⟨ret_bool HN.out.symm, B2.out⟩
  have HN : Hid (R = p3) := hid HR.out
  have D3 := hid (C3.out W2 B2.out)
  clear HR C3
  go_wp2_with fail
  with_reducible refine D3.out.mono ?_
  rintro e W3 ⟨rfl, hb3⟩
  have B3 := hid (B2.out.trans (hb3.mono B2.out.size))
  clear D3 hb3 B2
  go_wp2_with fail
  go_ret
  exact ⟨ret_bool HN.out.symm, B3.out⟩
end Go.Proofs.Ytannfhbocfghkaa.EnvC
/- Contract of env.Less. -/
namespace Go.Proofs.Ytannfhbocfghkaa.EnvC
open Go Go.RowKit Go.Shelf Go.Lib Go.Sort Go.Proofs.Ytannfhbocfghkaa.EnvP
attribute [local go_sem] Oper.semAt_some

/-- a pair that fits, the second one right -/
def LeOk (w : World) (x : Pr) : Prop := PrOk w x ∧ fitsT x.t x.u = true ∧ rightT x.u = true
theorem LeOk.keep {w w' : World} {x : Pr} (h : LeOk w x) (k : Keeps w w') : LeOk w' x := ⟨h.1.keep k, h.2⟩
theorem rightTs_mem : ∀ {l : List ETy} {t : ETy}, rightTs l = true → t ∈ l → rightT t = true
  | u :: us, t, h, hm => by
    rw [rightTs, Bool.and_eq_true] at h
    rcases List.mem_cons.1 hm with rfl | hm
    · exact h.1
    · exact rightTs_mem h.2 hm
theorem fitsTs_mem : ∀ {l m : List ETy} {j : Nat} {t u : ETy}, fitsTs l m = true → l[j]? = some t → m[j]? = some u → fitsT t u = true
  | x :: xs, y :: ys, 0, t, u, h, ht, hu => by
    rw [fitsTs, Bool.and_eq_true] at h
    simp at ht hu
    rw [← ht, ← hu]; exact h.1
  | x :: xs, y :: ys, j + 1, t, u, h, ht, hu => by
    rw [fitsTs, Bool.and_eq_true] at h
    exact fitsTs_mem h.2 (by simpa using ht) (by simpa using hu)
  | [], _, j, t, u, _, ht, _ => by simp at ht
  | _ :: _, [], j, t, u, _, _, hu => by simp at hu
theorem leOk_kids {w : World} {x : Pr} (h : LeOk w x) : ∀ y ∈ x.kids, LeOk w y := by
  intro y hy
  have h1 := prOk_kids h.1 y hy
  obtain ⟨j, t, u, ht, hu, rfl⟩ := mem_kids hy
  refine ⟨h1, ?_, ?_⟩
  · obtain ⟨b, o, ⟨k, m, g, lv, ls, kv, kids⟩, c, d, ⟨k', m', g', lv', ls', kv', kids'⟩⟩ := x
    have h2 := h.2.1
    rw [fitsT, Bool.and_eq_true] at h2
    exact fitsTs_mem h2.2 ht hu
  · obtain ⟨b, o, ⟨k, m, g, lv, ls, kv, kids⟩, c, d, ⟨k', m', g', lv', ls', kv', kids'⟩⟩ := x
    have h2 := h.2.2
    rw [rightT, Bool.and_eq_true] at h2
    exact rightTs_mem h2.1 (List.mem_of_getElem? hu)
theorem right_rising {t : ETy} (h : rightT t = true) : rising t.loans = true := by
  obtain ⟨k, m, g, lv, ls, kv, kids⟩ := t
  rw [rightT, Bool.and_eq_true] at h
  have h2 := h.2
  unfold askT at h2
  by_cases h4 : k = 4
  · rw [if_pos h4, Bool.and_eq_true] at h2
    unfold rightLns at h2
    rw [Bool.and_eq_true] at h2
    exact h2.1.2
  · rw [if_neg h4, Bool.and_eq_true, Bool.and_eq_true] at h2
    have : ls = [] := by have := h2.1.2; simpa using this
    show rising ls = true
    rw [this]; rfl
theorem fitsT_len {t u : ETy} (h : fitsT t u = true) : t.kids.length = u.kids.length := by
  obtain ⟨k, m, g, lv, ls, kv, kids⟩ := t
  obtain ⟨k', m', g', lv', ls', kv', kids'⟩ := u
  rw [fitsT] at h
  simp at h
  exact h.1.2
def less_one (p : Bd × Bd) : Bool := lessT p.1.ty p.2.ty

set_option maxHeartbeats 8000000 in
set_option maxRecDepth 100000 in
theorem less_any (a b : List Bd) (v u : Value) (w : World) (ha : EnvIn w v a) (hb : EnvIn w u b) (hsa : ∀ x ∈ a, Small x.ty) (hsb : ∀ x ∈ b, Small x.ty) (hla : a.length ≤ 1048576) (hlb : b.length ≤ 1048576) :
    Calls Try.prog 15 #[v, u] w fun r w' => r = .returned (.bool (less a b)) ∧ Below w.heap.size w w' := by
  have c0 := fun (W : World) (h : Below w.heap.size w W) => match_any a b v u W (ha.keep (Keeps.of_below h)) (hb.keep (Keeps.of_below h)) hsa hsb hla hlb
  obtain ⟨p, cap, hcap, rfl⟩ := lies_slice ha.1
  obtain ⟨p', cap', hcap', rfl⟩ := lies_slice hb.1
  obtain ⟨R, hR⟩ : ∃ R, less a b = R := ⟨_, rfl⟩
  rw [hR]
  unfold less at hR
  have hboth : both a b = true → a.length = b.length ∧ right b = true ∧ ∀ (i : Nat) (x y : Bd), a[i]? = some x → b[i]? = some y → fitsT x.ty y.ty = true := by
    intro h
    rw [both_eq] at h
    simp only [Bool.and_eq_true, beq_iff_eq] at h
    refine ⟨h.2.1, h.1.2, fun i x y hx hy => ?_⟩
    have h3 := h.2.2
    unfold allB at h3
    rw [List.all_eq_true] at h3
    have := h3 (x, y) (List.mem_of_getElem? (i := i) (by rw [List.getElem?_zip_eq_some]; exact ⟨hx, hy⟩))
    unfold fitB at this
    rw [Bool.and_eq_true] at this
    exact this.2
  generalize both a b = bt at *
  generalize hLa : a.length = La at *
  generalize hLb : b.length = Lb at *
  have hb1 : Below w.heap.size w (w.alloc (.cells #[.bool false] 4 (0, 0))) := (Below.refl _ _).alloc (Nat.le_refl _) _
  have X1 := Boxed.new w 4 (.bool false)
  change Boxed (w.alloc (.cells #[.bool false] 4 (0, 0))) _ _ _ at X1
  have C0 := hid (callsIn_wide (n := 11) |>.2 (c0 _ hb1))
  have HR := hid hR
  have HBT := hid hboth
  have HL := hid (And.intro hLa hLb)
  have HE := hid (And.intro ha hb)
  have HS := hid (And.intro hsa hsb)
  have HB1 := hid hb1
  have HX1 := hid X1
  clear hR hLa hLb ha hb hsa hsb c0 hboth hb1 X1
  refine callsIn_wide (n := 12) |>.1 (callsIn_of_wp_marks Try.func15 rfl trivial ?_ rfl)
  simp only [Try.ntmps15, List.size_toArray, List.length_cons, List.length_nil, Nat.reduceAdd, Nat.reduceSub, Array.replicate_succ, Array.replicate_zero, List.push_toArray, List.append_toArray, List.nil_append, List.cons_append]
  gi_wp2
  refine ⟨trivial, C0.out.mono ?_⟩
  generalize World.alloc w _ = W1 at *
  rintro e W2 ⟨rfl, hb2⟩
  have HB2 := hid (HB1.out.trans (hb2.mono HB1.out.size))
  have hx2 := boxed_below HX1.out hb2
  have hc2 := hx2.cell
  have hf2 := hx2.frozen
  have HX2 := hid hx2
  clear hb2 hx2 C0 HB1 HX1
  cases bt
  · have HN : Hid (R = false) := hid HR.out.symm
    clear HR HBT HE HS HL
    gi_wp2
    exact leaves_marks (b := w.heap.size + 1) (by intro e; cases e) [] _ trivial fun w' hb hc => ⟨_, result_cell rfl _ _ _ _ _ _ _ (hc.boxed (HX2.out.set _)) rfl Try.underlying4 rfl, by rw [HN.out], ((HB2.out.setCell (Nat.le_refl _) _).trans (hb.mono (by omega)))⟩
  · have HR2 : Hid ((((a.drop 0).zip (b.drop 0)).all less_one) = R) := hid (by rw [List.drop_zero, List.drop_zero, ← HR.out]; rfl)
    obtain ⟨hlen, hrb, hfit⟩ := HBT.out rfl
    subst hlen
    have HF := hid (And.intro hrb hfit)
    clear HR HBT hrb hfit hc2 hf2
    gi_wp2
    refine wpIn_loop_ghost_k (fun gf act wr => ∃ (i : Nat) (ds : List Deferred) (u5 u6 u14 u15 u16 u17 u18 u19 u20 u21 u22 u23 u24 u25 u26 u27 u28 u29 : Value), act = { tmps := #[.slice p La cap, .slice p' La cap', undef, undef, .pointer (some ⟨w.heap.size, 0, none⟩), u5, u6, .slice p La cap, .slice p' La cap', .bool true, .bool false, .slice p La cap, .int .i64 (La : Int), .int .i64 (i : Int), u14, u15, u16, u17, u18, u19, u20, u21, u22, u23, u24, u25, u26, u27, u28, u29], defers := ds } ∧
      i ≤ La ∧ La ≤ i + gf ∧ Hid (Marks (w.heap.size + 1) wr ds) ∧ Hid (Below w.heap.size w wr) ∧ Hid (Boxed wr w.heap.size 4 (.bool false)) ∧ Hid ((((a.drop i).zip (b.drop i)).all less_one) = R)) La ⟨0, [], _, _, _, _, _, _, _, _, _, _, _, _, _, _, _, _, _, _, rfl, by omega, by omega, hid trivial, HB2, HX2, HR2⟩ ?_
    rintro gk act wr ⟨i, ds, u5, u6, u14, u15, u16, u17, u18, u19, u20, u21, u22, u23, u24, u25, u26, u27, u28, u29, rfl, hi, hg, HM, HB, HX, HI⟩ J K hJ hK
    clear HB2 HX2 HR2
    by_cases hlt : i < La
    · obtain ⟨x, hx⟩ : ∃ x, a[i]? = some x := ⟨a[i]'(by rw [HL.out.1]; exact hlt), List.getElem?_eq_getElem _⟩
      obtain ⟨y, hy⟩ : ∃ y, b[i]? = some y := ⟨b[i]'(by rw [HL.out.2]; exact hlt), List.getElem?_eq_getElem _⟩
      obtain ⟨b1, o1, c1, ev, _, ok1, _⟩ := bd_at HE.out.1 hx (HS.out.1 x (List.mem_of_getElem? hx))
      injection ev with e1 e2 e3
      subst e1
      obtain ⟨b2, o2, c2, ev', _, ok2, _⟩ := bd_at HE.out.2 hy (HS.out.2 y (List.mem_of_getElem? hy))
      injection ev' with e1' e2' e3'
      subst e1'
      have hlo : LeOk w ⟨b1, o1 + i * 6 + 1, x.ty, b2, o2 + i * 6 + 1, y.ty⟩ := ⟨⟨ok1.1, ok2.1, ok1.2, ok2.2⟩, HF.out.2 i x y hx hy, by
        have := HF.out.1
        unfold right at this
        rw [List.all_eq_true] at this
        exact this y (List.mem_of_getElem? hy)⟩
      have hI2 := HI.out
      rw [drop_cons hx, drop_cons hy, List.zip_cons_cons, List.all_cons] at hI2
      have HA := hid (fun W => all_Pr ⟨b1, o1 + i * 6 + 1, x.ty, b2, o2 + i * 6 + 1, y.ty⟩ W)
      have HLO := hid hlo
      have HI2 : Hid ((lessT x.ty y.ty && ((a.drop (i + 1)).zip (b.drop (i + 1))).all less_one) = R) := hid hI2
      have ilt : (i : Int) < (La : Int) := by omega
      have i0 : (0 : Int) ≤ (i : Int) := by omega
      clear e2 e3 e2' e3' ok1 ok2 hlo hx hy HI hI2
      obtain ⟨rest, hrest⟩ : ∃ rest, ((a.drop (i + 1)).zip (b.drop (i + 1))).all less_one = rest := ⟨_, rfl⟩
      rw [hrest] at HI2
      have HREST := hid hrest
      clear hrest
      gi_wp2
      refine wpIn_wide.2 ?_
      go_region_held3 (fun w' => True) (first | trivial) (first | (go_at_call 30; refine (HA.out _).mono ?_; rintro e W2 ⟨rfl, hb2, h1, h2, hsz⟩))
      have hb2' : Below wr.heap.size wr W2 := ((Below.refl wr.heap.size wr).drew).trans hb2
      have h1' : W2.heap[wr.heap.size]? = some (.cells (Pr.cells ⟨b1, o1 + i * 6 + 1, x.ty, b2, o2 + i * 6 + 1, y.ty⟩).toArray 68 (0, 0)) := h1
      have h2' : Boxed W2 (wr.heap.size + 1) 77 (.func (.func 43) #[] #[]) := h2
      have HB2 := hid (HB.out.trans (hb2'.mono HB.out.size))
      have HM2 := hid (HM.out.later hb2')
      have HX2 := hid (boxed_below HX.out hb2')
      have HD : Hid (∀ D, { target := .collected D, args := #[] } ∈ ds → D < W2.heap.size) := hid (fun D hm => HM2.out.lt D hm)
      have HS2 : Hid (w.heap.size < W2.heap.size) := hid HX2.out.lt
      have hnt : nT x.ty ≤ 1048576 := Nat.le_trans (nT_le _) HLO.out.1.2.2.1
      clear hb2 hb2' h1 h2 hsz HA HB HM HX
      simp only [Exit.then]
      gi_wp2
      refine range_of (n := 12) rfl (by omega) (gf := 54) rfl trivial (enters_of Try.func54 (by kernel_rfl) rfl)
        (walks_Pr 11 (by omega) ⟨b1, o1 + i * 6 + 1, x.ty, b2, o2 + i * 6 + 1, y.ty⟩ wr.heap.size (wr.heap.size + 1) W2 h1' h2' hnt) (Below.refl _ _) rfl (fun A B x ks h hc => h.keep hc.keeps)
        (fun st W => Below W2.heap.size W2 W ∧ (∀ y ∈ st, LeOk w y) ∧ (stAll2 leP st && rest) = R)
        (fun W => Below w.heap.size w W ∧ Marks (w.heap.size + 1) W ds ∧ Boxed W w.heap.size 4 (.bool false) ∧ W2.heap.size ≤ W.heap.size ∧ R = false)
        (fun st A B h k => ⟨h.1.trans (k.below h.1.size), h.2⟩)
        (fun A B h k => ⟨h.1.trans ((k.below h.2.2.2.1).mono (Nat.le_of_lt HS2.out)), k.marks h.2.1 HD.out, k.boxed h.2.2.1 HS2.out, Nat.le_trans h.2.2.2.1 k.size, h.2.2.2.2⟩)
        ⟨Below.refl _ _, fun z hz => by rw [List.mem_singleton] at hz; subst hz; exact HLO.out, by rw [← HI2.out]; unfold stAll2; rw [List.all_cons, List.all_nil, Bool.and_true, less_all]⟩ ?round ?done ?stop
      case round =>
        clear HLO HI2 hnt h1' h2' HREST
        rintro l y r W ⟨hB, hok, heq⟩
        have hoy := hok y List.mem_cons_self
        rw [stAll2_step leP y r] at heq
        have hok2 : ∀ z ∈ y.kids ++ r, LeOk w z := fun z hz => (List.mem_append.1 hz).elim (fun h => leOk_kids hoy z h) (fun h => hok z (List.mem_cons_of_mem _ h))
        rw [show y.cells.toArray = #[.pointer (some ⟨y.b, y.o, none⟩), .pointer (some ⟨y.c, y.q, none⟩)] from rfl]
        have hbx : Below W.heap.size W (W.alloc (.cells #[.pointer (some ⟨y.b, y.o, none⟩), .pointer (some ⟨y.c, y.q, none⟩)] 68 (0, 0))) := (Below.refl _ _).alloc (Nat.le_refl _) _
        have hnew := World.alloc_heap_new W (.cells #[.pointer (some ⟨y.b, y.o, none⟩), .pointer (some ⟨y.c, y.q, none⟩)] 68 (0, 0))
        have HBX := hid hbx
        have HNEW := hid hnew
        have HBW := hid hB
        have HOY := hid hoy
        have HOKK := hid hok2
        have HEQ := hid heq
        clear hbx hnew hB hoy hok hok2 heq
        gi_wp2
        refine ⟨Below.keepsFrom HBX.out _, (Below.cellsSame HBX.out).types, fun W4 hb4 hc4 => ?_⟩
        have hn4 := hc4 _ _ HNEW.out rfl
        have d0 : W4.cell? ⟨W.heap.size, 0, none⟩ = some (.pointer (some ⟨y.b, y.o, none⟩)) := by rw [Lib.cell_of_heap hn4]; rfl
        have d1 : W4.cell? ⟨W.heap.size, 1, none⟩ = some (.pointer (some ⟨y.c, y.q, none⟩)) := by rw [Lib.cell_of_heap hn4]; rfl
        have HB4 := hid ((HBW.out.trans (HBX.out.mono HBW.out.size)).trans hb4)
        have HOY4 := hid (HOY.out.keep (Keeps.of_below (HB2.out.trans (HB4.out.mono (Nat.le_of_lt HS2.out)))))
        have HC := hid (CallsIn.inRound l (callsIn_wide (n := 9) |>.2 (atMost_any y W4 HOY4.out.1 (right_rising HOY4.out.2.2))))
        clear HBX HNEW HBW hb4 hc4 hn4 HOY
        generalize leP y.t y.u = qq at *
        gi_wp2
        refine ⟨trivial, HC.out.mono ?_⟩
        rintro e5 W5 ⟨rfl, hb5⟩
        have HB5 := hid (HB4.out.trans (hb5.mono HB4.out.size))
        have HOY5 := hid (HOY4.out.keep (Keeps.of_below hb5))
        have hx5 := boxed_below HX2.out HB5.out
        have hc5 := hx5.cell
        have hf5 := hx5.frozen
        have HX5 := hid hx5
        have HK5 := hid hb5
        clear HC hb5 hx5 d0 d1
        cases qq
        · have HR0 : Hid (R = false) := hid (by rw [← HEQ.out]; rfl)
          gi_wp2
          refine ⟨(Below.keepsFrom HK5.out _).trans (KeepsFrom.of_grownBy (grownBy_setCell' W5 _ _) (fun j e => by cases e; exact HS2.out)), (HB2.out.trans (HB5.out.mono (Nat.le_of_lt HS2.out))).setCell (Nat.le_refl _) _, (HM2.out.later HB5.out).set _ _, HX5.out.set _, Nat.le_trans HB5.out.size (by simp [World.setCell]), HR0.out⟩
        · gi_wp2
          exact ⟨Below.keepsFrom HK5.out _, (Below.cellsSame HK5.out).types, y.kids, ⟨HOY5.out.1.1, HOY5.out.1.2.1, HOY5.out.1.2.2.1, fitsT_len HOY5.out.2.1, rfl⟩, HB5.out, HOKK.out, by have := HEQ.out; simpa using this⟩
      case done =>
        rintro D W hD ⟨hB, _, heq⟩ hdef
        have HM3 := hid (Marks.push (HM2.out.later hB) HD.out hD (Nat.le_trans HS2.out hD) hdef)
        have HB3 := hid (HB2.out.trans (hB.mono (Nat.le_of_lt HS2.out)))
        have HX3 := hid (boxed_below HX2.out hB)
        have HI3 : Hid ((((a.drop (i + 1)).zip (b.drop (i + 1))).all less_one) = R) := hid (by rw [HREST.out, ← heq]; rfl)
        clear hB heq hdef HB2 HM2 HX2 HI2
        gi_wp2
        exact Handed.intro (gk - 1) (by omega) (hJ _ _ _ ⟨i + 1, _, _, _, _, _, _, _, _, _, _, _, _, _, _, _, _, _, _, _, rfl, by omega, by omega, HM3, HB3, HX3, HI3⟩)
      case stop =>
        rintro D W hD ⟨hB, hm, hx, hs, rfl⟩ hdef
        clear HB2 HM2 HX2 HI2
        gi_wp2
        exact leaves_marks (b := w.heap.size + 1) (by intro e; cases e) _ _ (Marks.push hm HD.out hD (Nat.le_trans HS2.out hD) hdef) fun w' hb hc => ⟨_, result_cell rfl _ _ _ _ _ _ _ (hc.boxed hx) rfl Try.underlying4 rfl, rfl, hB.trans (hb.mono (by omega))⟩
    · have HN : Hid (R = true) := hid (by rw [← HI.out, List.drop_eq_nil_of_le (by rw [HL.out.1]; omega)]; rfl)
      have hX := HX.out.cell
      have hF := HX.out.frozen
      clear HI HE HS HL HF
      gi_wp2
      exact leaves_marks (b := w.heap.size + 1) (by intro e; cases e) _ _ (HM.out.set _ _) fun w' hb hc => ⟨_, result_cell rfl _ _ _ _ _ _ _ (hc.boxed (HX.out.set _)) rfl Try.underlying4 rfl, by rw [HN.out], ((HB.out.setCell (Nat.le_refl _) _).trans (hb.mono (by omega)))⟩
end Go.Proofs.Ytannfhbocfghkaa.EnvC
/- Contract of lienbooklaw05.awake. -/
namespace Go.Proofs.Ytannfhbocfghkaa.EnvC
open Go Go.RowKit Go.Lib Go.Sort Go.Proofs.Ytannfhbocfghkaa.EnvP

def plX : Pl := ⟨⟨#[120]⟩, .slice none 0 0, []⟩
def plXs (v : Value) (i : Int) : Pl := ⟨⟨#[120]⟩, v, [i]⟩
def lnX : Ln := ⟨⟨#[]⟩, plX, false⟩
def tyI : ETy := .mk 1 false false (.slice none 0 0) [] (.slice none 0 0) []
def tyR (b : Nat) : ETy := .mk 4 false false (.slice (some ⟨b, 0, none⟩) 1 1) [lnX] (.slice (some ⟨b + 1, 0, none⟩) 1 1) [tyI]
def envR (b : Nat) : List Bd := [⟨⟨#[114]⟩, tyR b⟩]
theorem lies_none' {w : World} {size : Nat} : Lies w size (.slice none 0 0) [] := ⟨none, 0, rfl, Nat.le_refl _, fun h => absurd rfl h⟩
theorem lies_one' {w : World} {b : Nat} {cs : List Value} (h : BoxAt w b cs) : Lies w cs.length (.slice (some ⟨b, 0, none⟩) 1 1) [cs] :=
  ⟨some ⟨b, 0, none⟩, 1, rfl, Nat.le_refl _, fun _ => ⟨b, 0, rfl, fun i c hi j u hj => by
    match i, hi with
    | 0, hi =>
      rw [List.getElem?_cons_zero] at hi
      cases hi
      rw [Nat.zero_mul, Nat.zero_add]; try rw [Nat.zero_add]
      exact h j u hj
    | i + 1, hi => simp at hi⟩⟩
theorem env_in {w : World} {b : Nat} (h1 : BoxAt w b lnX.cells) (h2 : BoxAt w (b + 1) tyI.cells) (h3 : BoxAt w (b + 1 + 1 + 1) (Bd.cells ⟨⟨#[114]⟩, tyR b⟩)) : EnvIn w (.slice (some ⟨b + 1 + 1 + 1, 0, none⟩) 1 1) (envR b) := by
  refine ⟨lies_one' h3, fun x hx => ?_⟩
  unfold envR at hx
  rw [List.mem_singleton] at hx
  subst hx
  show (tyR b).In w
  unfold tyR
  rw [ETy.In]
  refine ⟨lies_one' h1, fun l hl => ?_, lies_one' h2, ?_⟩
  · rw [List.mem_singleton] at hl; subst hl; exact lies_none'
  · rw [ETy.Ins, ETy.Ins]
    refine ⟨?_, trivial⟩
    unfold tyI
    rw [ETy.In]
    exact ⟨lies_none', fun l hl => by simp at hl, lies_none', by simp [ETy.Ins]⟩
theorem r1 (v : Value) : overlap (plXs v 0) plX = true := rfl
theorem r2 (v u : Value) : overlap (plXs v 0) (plXs u 1) = false := rfl
theorem r3 (b : Nat) : right (envR b) = true := by rfl
theorem r4 (b : Nat) : hit (envR b) plX true = true := by rfl
theorem r5 (b : Nat) : hit (envR b) plX false = false := by rfl
theorem r6 (b : Nat) : less (envR b) (envR b) = true := by rfl
theorem small_R (b : Nat) : ∀ x ∈ envR b, Small x.ty := by
  intro x hx
  unfold envR at hx
  rw [List.mem_singleton] at hx
  subst hx
  show wT (tyR b) ≤ 1048576
  have : wT (tyR b) = 17 := by rfl
  omega

set_option maxHeartbeats 8000000 in
set_option maxRecDepth 100000 in
theorem awake_any (w : World) : Calls Try.prog 5 #[] w fun r w' => r = .returned (.bool true) ∧ Below w.heap.size w w' := by
  go_enter Try.func5, Try.ntmps5
  go_wp2_with fail
  generalize hA0 : World.alloc w _ = A0
  have s0 : A0.heap.size = w.heap.size + 1 := by rw [← hA0]; simp
  have b0 : Below w.heap.size w A0 := by rw [← hA0]; exact (Below.refl _ _).alloc (Nat.le_refl _) _
  have X0 : BoxAt A0 w.heap.size plX.cells := by rw [← hA0]; exact BoxAt.new w _ _
  generalize hA1 : World.alloc A0 _ = A1
  have s1 : A1.heap.size = w.heap.size + 1 + 1 := by rw [← hA1, World.size_alloc, s0]
  have b1 : Below A0.heap.size A0 A1 := by rw [← hA1]; exact (Below.refl _ _).alloc (Nat.le_refl _) _
  have X1 : BoxAt A1 (w.heap.size + 1) lnX.cells := by rw [← hA1, ← s0]; exact BoxAt.new A0 _ _
  generalize hA2 : World.alloc A1 _ = A2
  have s2 : A2.heap.size = w.heap.size + 1 + 1 + 1 := by rw [← hA2, World.size_alloc, s1]
  have b2 : Below A1.heap.size A1 A2 := by rw [← hA2]; exact (Below.refl _ _).alloc (Nat.le_refl _) _
  have X2 : BoxAt A2 (w.heap.size + 1 + 1) tyI.cells := by rw [← hA2, ← s1]; exact BoxAt.new A1 _ _
  generalize hA3 : World.alloc A2 _ = A3
  have s3 : A3.heap.size = w.heap.size + 1 + 1 + 1 + 1 := by rw [← hA3, World.size_alloc, s2]
  have b3 : Below A2.heap.size A2 A3 := by rw [← hA3]; exact (Below.refl _ _).alloc (Nat.le_refl _) _
  generalize hA4 : World.alloc A3 _ = A4
  have s4 : A4.heap.size = w.heap.size + 1 + 1 + 1 + 1 + 1 := by rw [← hA4, World.size_alloc, s3]
  have b4 : Below A3.heap.size A3 A4 := by rw [← hA4]; exact (Below.refl _ _).alloc (Nat.le_refl _) _
  have X4 : BoxAt A4 (w.heap.size + 1 + 1 + 1 + 1) (Bd.cells ⟨⟨#[114]⟩, tyR (w.heap.size + 1)⟩) := by rw [← hA4, ← s3]; exact BoxAt.new A3 _ _
  generalize hA5 : World.alloc A4 _ = A5
  have b5 : Below A4.heap.size A4 A5 := by rw [← hA5]; exact (Below.refl _ _).alloc (Nat.le_refl _) _
  have X5 : BoxAt A5 (w.heap.size + 1 + 1 + 1 + 1 + 1) (stCells 0) := by rw [← hA5, ← s4]; exact BoxAt.new A4 _ _
  have B05 : Below w.heap.size w A5 := ((((b0.trans (b1.mono b0.size)).trans (b2.mono (by omega))).trans (b3.mono (by omega))).trans (b4.mono (by omega))).trans (b5.mono (by omega))
  have Y0 : BoxAt A5 w.heap.size plX.cells := ((((X0.later b1).later b2).later b3).later b4).later b5
  have Y1 := (((X1.later b2).later b3).later b4).later b5
  have Y2 := ((X2.later b3).later b4).later b5
  have Y4 := X4.later b5
  have HE := hid (env_in Y1 Y2 Y4)
  have HP0 := hid (Y0)
  have HB := hid B05
  have C1 := hid (overlap_any (plXs (.slice (some ⟨w.heap.size + 1 + 1 + 1 + 1 + 1, 0, none⟩) 1 1) 0) plX A5 (lies_one' X5) lies_none' (by show 1 ≤ _; decide) (by show 0 ≤ _; decide))
  rw [r1] at C1
  clear hA0 hA1 hA2 hA3 hA4 hA5 s0 s1 s2 s3 s4 b0 b1 b2 b3 b4 b5 X0 X1 X2 X4 X5 Y0 Y1 Y2 Y4 B05
  refine C1.out.mono ?_
  rintro e1 W1 ⟨rfl, hb1⟩
  have HB1 := hid (HB.out.trans (hb1.mono HB.out.size))
  have HE1 := hid (HE.out.keep (Keeps.of_below hb1))
  have HP1 := hid (HP0.out.later hb1)
  clear hb1 HB HE HP0 C1
  go_wp2_with fail
  generalize hA0 : World.alloc W1 _ = A0
  have s0 : A0.heap.size = W1.heap.size + 1 := by rw [← hA0]; simp
  have b0 : Below W1.heap.size W1 A0 := by rw [← hA0]; exact (Below.refl _ _).alloc (Nat.le_refl _) _
  have X0 : BoxAt A0 W1.heap.size (stCells 0) := by rw [← hA0]; exact BoxAt.new W1 _ _
  generalize hA1 : World.alloc A0 _ = A1
  have b1 : Below A0.heap.size A0 A1 := by rw [← hA1]; exact (Below.refl _ _).alloc (Nat.le_refl _) _
  have X1 : BoxAt A1 (W1.heap.size + 1) (stCells 1) := by rw [← hA1, ← s0]; exact BoxAt.new A0 _ _
  have bb : Below W1.heap.size W1 A1 := b0.trans (b1.mono b0.size)
  have C2 := hid (overlap_any (plXs (.slice (some ⟨W1.heap.size, 0, none⟩) 1 1) 0) (plXs (.slice (some ⟨W1.heap.size + 1, 0, none⟩) 1 1) 1) A1 (lies_one' (X0.later b1)) (lies_one' X1) (by show 1 ≤ _; decide) (by show 1 ≤ _; decide))
  rw [r2] at C2
  have HB2 := hid (HB1.out.trans (bb.mono HB1.out.size))
  have HE2 := hid (HE1.out.keep (Keeps.of_below bb))
  have HP2 := hid (HP1.out.later bb)
  clear hA0 hA1 s0 b0 b1 X0 X1 bb HB1 HE1 HP1
  refine C2.out.mono ?_
  rintro e1 W2 ⟨rfl, hb1⟩
  have HB3 := hid (HB2.out.trans (hb1.mono HB2.out.size))
  have HE3 := hid (HE2.out.keep (Keeps.of_below hb1))
  have HP3 := hid (HP2.out.later hb1)
  clear hb1 HB2 HE2 HP2 C2
  have C3 := hid (rightEnv_any (envR (w.heap.size + 1)) _ W2 HE3.out (small_R _) (by show 1 ≤ _; decide))
  rw [r3] at C3
  go_wp2_with fail
  refine C3.out.mono ?_
  rintro e1 W3 ⟨rfl, hb1⟩
  have HB4 := hid (HB3.out.trans (hb1.mono HB3.out.size))
  have HE4 := hid (HE3.out.keep (Keeps.of_below hb1))
  have HP4 := hid (HP3.out.later hb1)
  clear hb1 HB3 HE3 HP3 C3
  have C4 := hid (hit_any (envR (w.heap.size + 1)) plX true _ W3 HE4.out (small_R _) (by show 1 ≤ _; decide) lies_none' (by decide))
  rw [r4] at C4
  have p0 := box_get HP4.out (j := 0) rfl
  have p1 := box_get HP4.out (j := 1) rfl
  go_wp2_with fail
  refine C4.out.mono ?_
  rintro e1 W4 ⟨rfl, hb1⟩
  have HB5 := hid (HB4.out.trans (hb1.mono HB4.out.size))
  have HE5 := hid (HE4.out.keep (Keeps.of_below hb1))
  have HP5 := hid (HP4.out.later hb1)
  clear hb1 HB4 HE4 HP4 C4 p0 p1
  have C5 := hid (hit_any (envR (w.heap.size + 1)) plX false _ W4 HE5.out (small_R _) (by show 1 ≤ _; decide) lies_none' (by decide))
  rw [r5] at C5
  have p0 := box_get HP5.out (j := 0) rfl
  have p1 := box_get HP5.out (j := 1) rfl
  go_wp2_with fail
  refine C5.out.mono ?_
  rintro e1 W5 ⟨rfl, hb1⟩
  have HB6 := hid (HB5.out.trans (hb1.mono HB5.out.size))
  have HE6 := hid (HE5.out.keep (Keeps.of_below hb1))
  clear hb1 HB5 HE5 HP5 C5 p0 p1
  have C6 := hid (less_any (envR (w.heap.size + 1)) (envR (w.heap.size + 1)) _ _ W5 HE6.out HE6.out (small_R _) (small_R _) (by show 1 ≤ _; decide) (by show 1 ≤ _; decide))
  rw [r6] at C6
  go_wp2_with fail
  refine C6.out.mono ?_
  rintro e1 W6 ⟨rfl, hb1⟩
  have HB7 := hid (HB6.out.trans (hb1.mono HB6.out.size))
  clear hb1 HB6 HE6 C6
  go_wp2_with fail
  go_ret
  exact ⟨rfl, HB7.out⟩
end Go.Proofs.Ytannfhbocfghkaa.EnvC
