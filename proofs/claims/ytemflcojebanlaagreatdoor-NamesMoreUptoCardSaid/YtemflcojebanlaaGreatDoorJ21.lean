/- Texts joined: NmQ, ErrF, ErrAs, ErrAw, ErrCode, NmR. -/
import Derived.Test.YtemflcojebanlaaGreatDoorJ20
import Derived.Test.YtemflcojebanlaaGreatDoorProg
import Derived.WalkKit
import Derived.LaidEql
import Derived.Stop.Asserts
import Derived.RowKitTokens
/- Contract of names' scope: stmts. -/
namespace Go.Proofs.YtemflcojebanlaaGreatDoor.NmC
open Go Go.RowKit Go.Lib Go.Sort Go.Maps LexP TreeP LexC TreeC NmP

theorem behind_take {scope : List Nm} {l : List St} {i : Nat} {s : St} (h : l[i]? = some s) : behind scope (l.take (i + 1)) = behindS (behind scope (l.take i)) (stK s) (bs (stN s)) := by
 rw [List.take_add_one, h, behind_append]; rfl
theorem behindS_len (scope : List Nm) (k : Int) (s : Nm) : (behindS scope k s).length ≤ scope.length + 1 := by
 unfold behindS; split <;> simp
set_option maxHeartbeats 8000000 in
set_option maxRecDepth 100000 in
theorem stmtsOk (ahead : List TreeP.Fn) : ∀ (n : Nat), n ≤ 1048576 → StmtsOk ahead n := by
 intro n
 induction n using Nat.strongRecOn with
 | ind n ih =>
  intro hn l lv scope ba bv w hw hl hin ha hv hne hsc
  have hlen := wSs_len l
  have hvl := hv.lt
  have hml := hv.map
  obtain ⟨R, hR⟩ : ∃ R, stmtsP scope ahead l = R := ⟨_, rfl⟩
  obtain ⟨BB, hBB⟩ : ∃ BB, behind scope l = BB := ⟨_, rfl⟩
  rw [hR, hBB]
  obtain ⟨p, cap, rfl, hcap, hx⟩ := id hl
  rw [List.length_map] at *
  generalize hL : l.length = L at *
  have HS := hid hR
  have HBB := hid hBB
  have HL := hid hL
  have HX := hid hl
  have HI := hid hin
  have HA := hid ha
  have HM := hid hml
  have hb1 : Below w.heap.size w (w.alloc (.cells #[.map (some ba), .map (some bv)] 88)) := (Below.refl _ _).alloc (Nat.le_refl _) _
  have X0 : Hid (BoxAt (w.alloc (.cells #[.map (some ba), .map (some bv)] 88)) w.heap.size [.map (some ba), .map (some bv)]) := hid (BoxAt.new w _ _)
  have B0 := hid hb1
  have V0 := hid (hv.below hb1)
  have hsz : w.heap.size < (w.alloc (.cells #[.map (some ba), .map (some bv)] 88)).heap.size := by rw [World.size_alloc]; omega
  clear hx hL hl hin hR ha hv hBB hml hb1
  go_enter Tryz.func44, Tryz.ntmps44
  go_wp2_with fail
  generalize w.alloc _ = W1 at *
  go_loopg [9] L (fun gf v wx => ∃ i : Nat, v = .int .i64 (i : Int) ∧ i ≤ L ∧ L ≤ i + gf ∧ (behind scope (l.take i)).length + wSs (l.drop i) ≤ 1048576 ∧ Hid (R = stmtsP (behind scope (l.take i)) ahead (l.drop i)) ∧ Hid (VarsAt wx bv (behind scope (l.take i))) ∧ Hid (W1.grownBy wx (some bv)))
  case atStart => exact ⟨0, rfl, by omega, by omega, by rw [List.take_zero, List.drop_zero, behind]; omega, hid (by rw [← HS.out]; rfl), V0, hid ⟨rfl, rfl, rfl, Nat.le_refl _, fun _ _ _ => rfl⟩⟩
  case round =>
   obtain ⟨i, rfl, hi, hg, hln, HR, HV, HG⟩ := hrel
   clear V0
   have HGw := hid ((below_grown B0.out (some bv)).andThen HG.out (fun j hj => .inr hj))
   have hkeep : Keeps w wr := keeps_map HM.out HGw.out
   have Y0 : Hid (BoxAt wr w.heap.size [.map (some ba), .map (some bv)]) := hid fun j u h => by
    rw [HG.out.cell_far ⟨w.heap.size, j, none⟩ hsz (by simp; omega)]; exact X0.out j u h
   have HAr := hid (HA.out.kept HGw.out (by simpa using hne))
   by_cases hlt : i < L
   ·obtain ⟨s, ht⟩ : ∃ s, l[i]? = some s := ⟨l[i]'(by rw [HL.out]; exact hlt), List.getElem?_eq_getElem _⟩
    obtain ⟨b, off, cap', e, _, hx⟩ := Lies.at (HX.out.keep hkeep) (i := i) (by rw [List.length_map, HL.out]; exact hlt)
    injection e with e1 e2 e3
    subst e1
    clear e2 e3
    have hx' := hx i s.cells (by rw [List.getElem?_map, ht]; rfl)
    have hws := wSs_get l i s ht
    have hin' := St.In.keep hkeep s ((St.ins_iff w l).1 HI.out s (List.mem_of_getElem? ht))
    have hr1 : R = (stmtP (behind scope (l.take i)) ahead s && stmtsP (behind scope (l.take (i + 1))) ahead (l.drop (i + 1))) := by rw [HR.out, drop_cons ht, stmtsP_cons, behind_take ht]
    rw [show wSs (l.drop i) = wS s + wSs (l.drop (i + 1)) by rw [drop_cons ht, wSs]] at hln
    have hbl := behindS_len (behind scope (l.take i)) (stK s) (bs (stN s))
    rw [← behind_take ht] at hbl
    have hw5 : 5 ≤ wS s := by obtain ⟨_, _, _, _, _, _, _, _⟩ := s; rw [wS]; omega
    have hps := fun (W : World) (h : Below wr.heap.size wr W) => pStmt_any ahead (wS s - 1) (ih (wS s - 1) (by omega) (by omega)) s (behind scope (l.take i)) ba bv W (by omega) (by omega) (St.In.keep (Keeps.of_below h) s hin') (HAr.out.below h) (HV.out.below h) hne (by omega)
    rw [← behind_take ht] at hps
    generalize stmtP (behind scope (l.take i)) ahead s = q at *
    obtain ⟨k, nm, pk, pn, ps, pm, pp, pz, pc, pks, ek, en, es, em, ep, ez, ec, eks, tp, tz, tc, thn, lp, lz, lc, els, rfl⟩ := st_parts hin'
    have x0 : wr.cell? ⟨b, off + i * 14, none⟩ = some (.int .i64 k) := hx' 0 _ rfl
    have x1 : wr.cell? ⟨b, off + i * 14 + 1, none⟩ = some (.string nm) := hx' 1 _ rfl
    have x2 : wr.cell? ⟨b, off + i * 14 + 2, none⟩ = some (.int .i64 pk) := hx' 2 _ rfl
    have x3 : wr.cell? ⟨b, off + i * 14 + 3, none⟩ = some (.int .i64 pn) := hx' 3 _ rfl
    have x4 : wr.cell? ⟨b, off + i * 14 + 4, none⟩ = some (.string ps) := hx' 4 _ rfl
    have x5 : wr.cell? ⟨b, off + i * 14 + 5, none⟩ = some (.bool pm) := hx' 5 _ rfl
    have x6 : wr.cell? ⟨b, off + i * 14 + 6, none⟩ = some (.slice pp pz pc) := hx' 6 _ rfl
    have x7 : wr.cell? ⟨b, off + i * 14 + 7, none⟩ = some (.int .i64 ek) := hx' 7 _ rfl
    have x8 : wr.cell? ⟨b, off + i * 14 + 8, none⟩ = some (.int .i64 en) := hx' 8 _ rfl
    have x9 : wr.cell? ⟨b, off + i * 14 + 9, none⟩ = some (.string es) := hx' 9 _ rfl
    have x10 : wr.cell? ⟨b, off + i * 14 + 10, none⟩ = some (.bool em) := hx' 10 _ rfl
    have x11 : wr.cell? ⟨b, off + i * 14 + 11, none⟩ = some (.slice ep ez ec) := hx' 11 _ rfl
    have x12 : wr.cell? ⟨b, off + i * 14 + 12, none⟩ = some (.slice tp tz tc) := hx' 12 _ rfl
    have x13 : wr.cell? ⟨b, off + i * 14 + 13, none⟩ = some (.slice lp lz lc) := hx' 13 _ rfl
    rw [show (St.mk k nm (.mk pk pn ps pm (.slice pp pz pc) pks) (.mk ek en es em (.slice ep ez ec) eks) (.slice tp tz tc) thn (.slice lp lz lc) els).val = .agg #[.int .i64 k, .string nm, .int .i64 pk, .int .i64 pn, .string ps, .bool pm, .slice pp pz pc, .int .i64 ek, .int .i64 en, .string es, .bool em, .slice ep ez ec, .slice tp tz tc, .slice lp lz lc] from rfl] at hps
    have hb2 : Below wr.heap.size wr (wr.alloc (.cells #[.int .i64 k, .string nm, .int .i64 pk, .int .i64 pn, .string ps, .bool pm, .slice pp pz pc, .int .i64 ek, .int .i64 en, .string es, .bool em, .slice ep ez ec, .slice tp tz tc, .slice lp lz lc] 68)) := (Below.refl _ _).alloc (Nat.le_refl _) _
    have CP := hid (hps _ hb2)
    have HG2 := hid (HG.out.andThen (below_grown hb2 (some bv)) (fun j hj => .inr hj))
    have HGw2 := hid (HGw.out.andThen (below_grown hb2 (some bv)) (fun j hj => .inr hj))
    have e0 := later hb2 (box_get Y0.out (j := 0) rfl)
    have e1 := later hb2 (box_get Y0.out (j := 1) rfl)
    have HR1 := hid hr1
    clear hx hx' ht hws hin' hr1 hps hb2 HR hkeep ih
    go_wp2_with fail
    refine CP.out.mono ?_
    rintro e W3 ⟨rfl, hg3, hv3⟩
    cases q with
    | false =>
     have K : R = false := by rw [HR1.out]; rfl
     subst K
     go_wp2_with fail
     go_ret
     exact ⟨rfl, HGw2.out.andThen hg3 (fun j hj => .inr hj), fun h => by cases h⟩
    | true =>
     have K : Hid (R = stmtsP (behind scope (l.take (i + 1))) ahead (l.drop (i + 1))) := hid (by rw [HR1.out, Bool.true_and])
     have HV3 := hid (hv3 rfl)
     have HG3 := hid (HG2.out.andThen hg3 (fun j hj => .inr hj))
     clear HR1 hv3 hg3
     go_wp2_with fail
     go_roundg (gk - 1)
     case measure => omega
     case rel => exact ⟨i + 1, by go_num, by omega, by omega, by omega, K, HV3, HG3⟩
   ·obtain rfl : i = L := by omega
    have K : R = true := by rw [HR.out, drop_len (by rw [HL.out]; exact Nat.le_refl _)]; rfl
    have HV1 : Hid (VarsAt wr bv BB) := hid (by have := HV.out; rw [← HL.out, List.take_length, HBB.out] at this; exact this)
    subst K
    go_wp2_with fail
    go_ret
    exact ⟨rfl, HGw.out, fun _ => HV1.out⟩
end Go.Proofs.YtemflcojebanlaaGreatDoor.NmC
/- Closed facts on reflectlite at the program's types, for errors.As at its two targets: a code (*api.Code) and a fault (**api.Fault); the error a code, or a fault that wraps a code. -/
namespace Go.Proofs.YtemflcojebanlaaGreatDoor.ErrAs
open Go Go.RowKit Go.Extern.Stop Go.Stop Go.Extern

/-- reflectlite's handle of a type -/
abbrev hd (t : Nat) : Value := .pointer (some ⟨4, t, none⟩)
/-- a Value of a type, at an address -/
abbrev rv (t : Nat) (p : Addr) (fl : Int) : Value := .agg #[hd t, .pointer (some p), .int .u64 fl]

theorem unpackPC (t : Addr) (w : World) : (ReflectliteValue.unpack (.iface 76 (.pointer (some t)))).run Tryz.prog w = .ok (rv 76 ⟨w.heap.size, 0, none⟩ 150) (w.alloc (.cells #[.pointer (some t)] 76)) := by kernel_rfl
theorem typePC (a : Addr) (w : World) : (ReflectliteValue.methodAny (ReflectliteValue.valueError "reflectlite.Value.Type" 0) (fun t _ _ _ => ReflectliteType.toType t) #[rv 76 a 150]).run Tryz.prog w = .ok (.iface 145 (.agg #[hd 76])) w := by kernel_rfl
theorem mKind (h : Value) (w : World) : (Go.method 347 145 (.agg #[h]) "Kind").run Tryz.prog w = .ok (180, h) w := by kernel_rfl
theorem mElem (h : Value) (w : World) : (Go.method 347 145 (.agg #[h]) "Elem").run Tryz.prog w = .ok (192, .agg #[h]) w := by kernel_rfl
theorem mImpl (h : Value) (w : World) : (Go.method 347 145 (.agg #[h]) "Implements").run Tryz.prog w = .ok (193, .agg #[h]) w := by kernel_rfl
theorem mAssign (h : Value) (w : World) : (Go.method 347 145 (.agg #[h]) "AssignableTo").run Tryz.prog w = .ok (190, .agg #[h]) w := by kernel_rfl
theorem kindPC (w : World) : ((ReflectliteType.abiMethod fun t => (fun a : Nat => Value.int IntKind.u8 (a : Int)) <$> Rtype.kind t) #[hd 76]).run Tryz.prog w = .ok (.int .u8 22) w := by kernel_rfl
theorem kindC (w : World) : ((ReflectliteType.abiMethod fun t => (fun a : Nat => Value.int IntKind.u8 (a : Int)) <$> Rtype.kind t) #[hd 55]).run Tryz.prog w = .ok (.int .u8 2) w := by kernel_rfl
theorem elemPC (w : World) : (ReflectliteType.method ReflectliteType.elem #[.agg #[hd 76]]).run Tryz.prog w = .ok (.iface 145 (.agg #[hd 55])) w := by kernel_rfl
theorem implC (w : World) : (ReflectliteType.relation "Implements" ReflectliteType.implements_ #[.agg #[hd 55], .iface 145 (.agg #[hd 29])]).run Tryz.prog w = .ok (.bool true) w := by kernel_rfl
theorem typeOfC (v : Value) (w : World) : (ReflectliteType.typeOf #[.iface 55 v]).run Tryz.prog w = .ok (.iface 145 (.agg #[hd 55])) w := by kernel_rfl
theorem assignCC (w : World) : (ReflectliteType.relation "AssignableTo" ReflectliteType.assignableTo #[.agg #[hd 55], .iface 145 (.agg #[hd 55])]).run Tryz.prog w = .ok (.bool true) w := by kernel_rfl
theorem unpackC (n : Int) (w : World) : (ReflectliteValue.unpack (.iface 55 (.int .i64 n))).run Tryz.prog w = .ok (rv 55 ⟨w.heap.size, 0, none⟩ 130) (w.alloc (.cells #[.int .i64 n] 55)) := by kernel_rfl
theorem elemQPC (w : World) : (Rtype.elem? 76).run Tryz.prog w = .ok (some 55) w := by kernel_rfl
theorem mkC (p : Addr) (w : World) : (ReflectliteValue.mk 55 p ReflectliteValue.flagAddr).run Tryz.prog w = .ok (rv 55 p 386) w := by kernel_rfl
theorem partsPC (a : Addr) (w : World) : (ReflectliteValue.parts (rv 76 a 150)).run Tryz.prog w = .ok (some (76, a, 150)) w := by kernel_rfl
theorem partsC (a : Addr) (w : World) : (ReflectliteValue.parts (rv 55 a 386)).run Tryz.prog w = .ok (some (55, a, 386)) w := by kernel_rfl
theorem partsC' (a : Addr) (w : World) : (ReflectliteValue.parts (rv 55 a 130)).run Tryz.prog w = .ok (some (55, a, 130)) w := by kernel_rfl
theorem directC (w : World) : (Rtype.directlyAssignable 55 55).run Tryz.prog w = .ok true w := by kernel_rfl

theorem method_eq (z : Sem Value) (f : TypeId → Addr → Nat → Nat → Sem Value) (v : Value) :
  ReflectliteValue.method z f #[v] = (do match ← ReflectliteValue.parts v with | none => z | some (t, a, fl) => f t a fl (fl % 32)) := rfl
theorem isNilPC (a p : Addr) (W : World) (ha : W.cell? a = some (.pointer (some p))) :
  (ReflectliteValue.method (ReflectliteValue.valueError "reflectlite.Value.IsNil" 0) ReflectliteValue.isNil #[rv 76 a 150]).run Tryz.prog W = .ok (.bool false) W := by
 rw [method_eq]
 simp only [Sem.run_bind, partsPC, Result.andThen]
 simp [ReflectliteValue.isNil, loadVar, isAgg, underlying, Tryz.underlying76, ha, Result.andThen]
theorem elemVPC (a p : Addr) (W : World) (ha : W.cell? a = some (.pointer (some p))) :
  (ReflectliteValue.method (ReflectliteValue.valueError "reflectlite.Value.Elem" 0) ReflectliteValue.elem #[rv 76 a 150]).run Tryz.prog W = .ok (rv 55 p 386) W := by
 rw [method_eq]
 simp only [Sem.run_bind, partsPC, Result.andThen]
 simp [ReflectliteValue.elem, loadVar, isAgg, underlying, Tryz.underlying76, ha, Result.andThen, elemQPC, mkC]
theorem setC (ta b : Addr) (n : Int) (old : Value) (W : World) (hb : W.cell? b = some (.int .i64 n)) (ht : W.cell? ta = some old) (hf : W.frozen? ta = false) :
  (ReflectliteValue.set #[rv 55 ta 386, rv 55 b 130]).run Tryz.prog W = .ok (.tuple #[]) (W.setCell ta (.int .i64 n)) := by
 rw [show ReflectliteValue.set #[rv 55 ta 386, rv 55 b 130] = (ReflectliteValue.parts (rv 55 ta 386) >>= fun p => ReflectliteValue.parts (rv 55 b 130) >>= _) from rfl]
 simp only [Sem.run_bind, partsC, partsC', Result.andThen]
 simp [ReflectliteValue.flagAddr, loadVar, isAgg, underlying, Tryz.underlying55, hb, Result.andThen, directC, storeVar, Value.cells, storeCells, Addr.add]
 rw [run_store Tryz.prog W ta _ _ (by rfl)]
 simp [ht, hf]


/-! The target **api.Fault; the error *api.Fault -/
theorem unpackPPF (t : Addr) (w : World) : (ReflectliteValue.unpack (.iface 77 (.pointer (some t)))).run Tryz.prog w = .ok (rv 77 ⟨w.heap.size, 0, none⟩ 150) (w.alloc (.cells #[.pointer (some t)] 77)) := by kernel_rfl
theorem typePPF (a : Addr) (w : World) : (ReflectliteValue.methodAny (ReflectliteValue.valueError "reflectlite.Value.Type" 0) (fun t _ _ _ => ReflectliteType.toType t) #[rv 77 a 150]).run Tryz.prog w = .ok (.iface 145 (.agg #[hd 77])) w := by kernel_rfl
theorem kindPPF (w : World) : ((ReflectliteType.abiMethod fun t => (fun a : Nat => Value.int IntKind.u8 (a : Int)) <$> Rtype.kind t) #[hd 77]).run Tryz.prog w = .ok (.int .u8 22) w := by kernel_rfl
theorem kindPF (w : World) : ((ReflectliteType.abiMethod fun t => (fun a : Nat => Value.int IntKind.u8 (a : Int)) <$> Rtype.kind t) #[hd 56]).run Tryz.prog w = .ok (.int .u8 22) w := by kernel_rfl
theorem elemPPF (w : World) : (ReflectliteType.method ReflectliteType.elem #[.agg #[hd 77]]).run Tryz.prog w = .ok (.iface 145 (.agg #[hd 56])) w := by kernel_rfl
theorem implPF (w : World) : (ReflectliteType.relation "Implements" ReflectliteType.implements_ #[.agg #[hd 56], .iface 145 (.agg #[hd 29])]).run Tryz.prog w = .ok (.bool true) w := by kernel_rfl
theorem typeOfPF (v : Value) (w : World) : (ReflectliteType.typeOf #[.iface 56 v]).run Tryz.prog w = .ok (.iface 145 (.agg #[hd 56])) w := by kernel_rfl
theorem assignFF (w : World) : (ReflectliteType.relation "AssignableTo" ReflectliteType.assignableTo #[.agg #[hd 56], .iface 145 (.agg #[hd 56])]).run Tryz.prog w = .ok (.bool true) w := by kernel_rfl
theorem assignFC (w : World) : (ReflectliteType.relation "AssignableTo" ReflectliteType.assignableTo #[.agg #[hd 56], .iface 145 (.agg #[hd 55])]).run Tryz.prog w = .ok (.bool false) w := by kernel_rfl
theorem unpackPF (p : Addr) (w : World) : (ReflectliteValue.unpack (.iface 56 (.pointer (some p)))).run Tryz.prog w = .ok (rv 56 ⟨w.heap.size, 0, none⟩ 150) (w.alloc (.cells #[.pointer (some p)] 56)) := by kernel_rfl
theorem elemQPPF (w : World) : (Rtype.elem? 77).run Tryz.prog w = .ok (some 56) w := by kernel_rfl
theorem mkPF (p : Addr) (w : World) : (ReflectliteValue.mk 56 p ReflectliteValue.flagAddr).run Tryz.prog w = .ok (rv 56 p 406) w := by kernel_rfl
theorem partsPPF (a : Addr) (w : World) : (ReflectliteValue.parts (rv 77 a 150)).run Tryz.prog w = .ok (some (77, a, 150)) w := by kernel_rfl
theorem partsPF (a : Addr) (w : World) : (ReflectliteValue.parts (rv 56 a 406)).run Tryz.prog w = .ok (some (56, a, 406)) w := by kernel_rfl
theorem partsPF' (a : Addr) (w : World) : (ReflectliteValue.parts (rv 56 a 150)).run Tryz.prog w = .ok (some (56, a, 150)) w := by kernel_rfl
theorem directPF (w : World) : (Rtype.directlyAssignable 56 56).run Tryz.prog w = .ok true w := by kernel_rfl
theorem isNilPPF (a p : Addr) (W : World) (ha : W.cell? a = some (.pointer (some p))) :
  (ReflectliteValue.method (ReflectliteValue.valueError "reflectlite.Value.IsNil" 0) ReflectliteValue.isNil #[rv 77 a 150]).run Tryz.prog W = .ok (.bool false) W := by
 rw [method_eq]
 simp only [Sem.run_bind, partsPPF, Result.andThen]
 simp [ReflectliteValue.isNil, loadVar, isAgg, underlying, Tryz.underlying77, ha, Result.andThen]
theorem elemVPPF (a p : Addr) (W : World) (ha : W.cell? a = some (.pointer (some p))) :
  (ReflectliteValue.method (ReflectliteValue.valueError "reflectlite.Value.Elem" 0) ReflectliteValue.elem #[rv 77 a 150]).run Tryz.prog W = .ok (rv 56 p 406) W := by
 rw [method_eq]
 simp only [Sem.run_bind, partsPPF, Result.andThen]
 simp [ReflectliteValue.elem, loadVar, isAgg, underlying, Tryz.underlying77, ha, Result.andThen, elemQPPF, mkPF]
theorem setPF (ta b e : Addr) (old : Value) (W : World) (hb : W.cell? b = some (.pointer (some e))) (ht : W.cell? ta = some old) (hf : W.frozen? ta = false) :
  (ReflectliteValue.set #[rv 56 ta 406, rv 56 b 150]).run Tryz.prog W = .ok (.tuple #[]) (W.setCell ta (.pointer (some e))) := by
 rw [show ReflectliteValue.set #[rv 56 ta 406, rv 56 b 150] = (ReflectliteValue.parts (rv 56 ta 406) >>= fun p => ReflectliteValue.parts (rv 56 b 150) >>= _) from rfl]
 simp only [Sem.run_bind, partsPF, partsPF', Result.andThen]
 simp [ReflectliteValue.flagAddr, loadVar, isAgg, underlying, Tryz.underlying56, hb, Result.andThen, directPF, storeVar, Value.cells, storeCells, Addr.add]
 rw [run_store Tryz.prog W ta _ _ (by rfl)]
 simp [ht, hf]
theorem unwrapAhead (a : Addr) (w : World) : (nilAhead 347 56 (.pointer (some a)) "Unwrap").run Tryz.prog w = .ok (some false) w := by kernel_rfl
theorem unwrapIs (a : Addr) (w : World) : (Go.method 347 56 (.pointer (some a)) "Unwrap").run Tryz.prog w = .ok (185, .pointer (some a)) w := by kernel_rfl
/- errors.As at the program's two targets: a code (*api.Code) and a fault (**api.Fault); the error a code, or a fault that wraps a code. -/

/-- the memory behind errors.As: reflectlite's copies -/
abbrev behind (w : World) (T E : Nat) (t : Addr) (v : Value) : World :=
 (((w.alloc (.cells #[.pointer (some t)] T)).alloc (.cells #[hd T, .pointer (some ⟨w.heap.size, 0, none⟩), .int .u64 150] 109)).alloc (.cells #[hd T, .pointer (some ⟨w.heap.size, 0, none⟩), .int .u64 150] 109)).alloc (.cells #[v] E)

set_option maxHeartbeats 4000000 in
theorem as_code (n : Int) (t : Addr) (old : Value) (w : World) (hg : w.cell? ⟨0, 0, none⟩ = some (.iface 145 (.agg #[hd 29]))) (ht0 : w.cell? t = some old) (hf0 : w.frozen? t = false) :
  Calls Tryz.prog 36 #[.iface 55 (.int .i64 n), .iface 76 (.pointer (some t))] w fun ev w' => ev = .returned (.bool true) ∧ w' = (behind w 76 55 t (.int .i64 n)).setCell t (.int .i64 n) := by
 have h1 := @run_callFunc_extern Tryz.prog 58 _ (fun args => ReflectliteValue.unpack (args.getD 0 (.tuple #[]))) Tryz.func58 (by kernel_rfl) (by kernel_rfl) (by kernel_rfl) (by kernel_rfl)
 have h2 := @run_callFunc_extern Tryz.prog 59 _ (ReflectliteValue.methodAny (ReflectliteValue.valueError "reflectlite.Value.Type" 0) (fun t _ _ _ => ReflectliteType.toType t)) Tryz.func59 (by kernel_rfl) (by kernel_rfl) (by kernel_rfl) (by kernel_rfl)
 have h3 := @run_callFunc_extern Tryz.prog 60 _ (ReflectliteValue.method (ReflectliteValue.valueError "reflectlite.Value.IsNil" 0) ReflectliteValue.isNil) Tryz.func60 (by kernel_rfl) (by kernel_rfl) (by kernel_rfl) (by kernel_rfl)
 have h4 := @run_callFunc_extern Tryz.prog 180 _ (ReflectliteType.abiMethod fun t => do pure (.int .u8 (← Rtype.kind t))) Tryz.func180 (by kernel_rfl) (by kernel_rfl) (by kernel_rfl) (by kernel_rfl)
 have h5 := @run_callFunc_extern Tryz.prog 192 _ (ReflectliteType.method ReflectliteType.elem) Tryz.func192 (by kernel_rfl) (by kernel_rfl) (by kernel_rfl) (by kernel_rfl)
 have h6 := @run_callFunc_extern Tryz.prog 193 _ (ReflectliteType.relation "Implements" ReflectliteType.implements_) Tryz.func193 (by kernel_rfl) (by kernel_rfl) (by kernel_rfl) (by kernel_rfl)
 have h7 := @run_callFunc_extern Tryz.prog 92 _ ReflectliteType.typeOf Tryz.func92 (by kernel_rfl) (by kernel_rfl) (by kernel_rfl) (by kernel_rfl)
 have h8 := @run_callFunc_extern Tryz.prog 190 _ (ReflectliteType.relation "AssignableTo" ReflectliteType.assignableTo) Tryz.func190 (by kernel_rfl) (by kernel_rfl) (by kernel_rfl) (by kernel_rfl)
 have h9 := @run_callFunc_extern Tryz.prog 93 _ (ReflectliteValue.method (ReflectliteValue.valueError "reflectlite.Value.Elem" 0) ReflectliteValue.elem) Tryz.func93 (by kernel_rfl) (by kernel_rfl) (by kernel_rfl) (by kernel_rfl)
 have h10 := @run_callFunc_extern Tryz.prog 94 _ ReflectliteValue.set Tryz.func94 (by kernel_rfl) (by kernel_rfl) (by kernel_rfl) (by kernel_rfl)
 have q1 := unpackPC
 have q2 := typePC
 have q3 := mKind
 have q4 := mElem
 have q5 := mImpl
 have q6 := mAssign
 have q7 := kindPC
 have q8 := kindC
 have q9 := elemPC
 have q10 := implC
 have q11 := typeOfC
 have q12 := assignCC
 have q13 := unpackC
 have n8 := isNilPC ⟨w.heap.size, 0, none⟩ t ((w.alloc (.cells #[.pointer (some t)] 76)).alloc (.cells #[hd 76, .pointer (some ⟨w.heap.size, 0, none⟩), .int .u64 150] 109)) (by simp)
 have hlt : 0 < w.heap.size := World.block_lt_of_cell? w _ hg
 have hg2 : ((w.alloc (.cells #[.pointer (some t)] 76)).alloc (.cells #[hd 76, .pointer (some ⟨w.heap.size, 0, none⟩), .int .u64 150] 109)).cell? ⟨0, 0, none⟩ = some (.iface 145 (.agg #[hd 29])) := by
  rw [World.cell?_alloc_lt _ _ ⟨0, 0, none⟩ (by simp <;> omega), World.cell?_alloc_lt _ _ ⟨0, 0, none⟩ hlt]; exact hg
 have htl : t.block < w.heap.size := World.block_lt_of_cell? w _ ht0
 have el := elemVPC ⟨w.heap.size, 0, none⟩ t (((w.alloc (.cells #[.pointer (some t)] 76)).alloc (.cells #[hd 76, .pointer (some ⟨w.heap.size, 0, none⟩), .int .u64 150] 109)).alloc (.cells #[hd 76, .pointer (some ⟨w.heap.size, 0, none⟩), .int .u64 150] 109)) (by rw [World.cell?_alloc_lt _ _ ⟨w.heap.size, 0, none⟩ (by simp; omega)]; simp)
 have st := setC t ⟨w.heap.size + 1 + 1 + 1, 0, none⟩ n old (behind w 76 55 t (.int .i64 n))
  (by rw [World.cell?_alloc_at _ _ _ _ (by simp)]; rfl)
  (by rw [World.cell?_alloc_lt _ _ t (by simp; omega), World.cell?_alloc_lt _ _ t (by simp; omega), World.cell?_alloc_lt _ _ t (by simp; omega), World.cell?_alloc_lt _ _ t htl]; exact ht0)
  (by rw [World.frozen?_alloc_old _ _ t (by simp; omega), World.frozen?_alloc_old _ _ t (by simp; omega), World.frozen?_alloc_old _ _ t (by simp; omega), World.frozen?_alloc_old _ _ t (Nat.ne_of_lt htl)]; exact hf0)
 go_enter Tryz.func36, Tryz.ntmps36
 go_wp2
 refine wp_loop_rounds 1 ?_
 rw [rounds_succ]
 go_wp2
 go_ret
 exact ⟨rfl, rfl⟩
set_option maxHeartbeats 4000000 in
theorem as_fault (e t : Addr) (old : Value) (w : World) (hg : w.cell? ⟨0, 0, none⟩ = some (.iface 145 (.agg #[hd 29]))) (ht0 : w.cell? t = some old) (hf0 : w.frozen? t = false) :
  Calls Tryz.prog 36 #[.iface 56 (.pointer (some e)), .iface 77 (.pointer (some t))] w fun ev w' => ev = .returned (.bool true) ∧ w' = (behind w 77 56 t (.pointer (some e))).setCell t (.pointer (some e)) := by
 have h1 := @run_callFunc_extern Tryz.prog 58 _ (fun args => ReflectliteValue.unpack (args.getD 0 (.tuple #[]))) Tryz.func58 (by kernel_rfl) (by kernel_rfl) (by kernel_rfl) (by kernel_rfl)
 have h2 := @run_callFunc_extern Tryz.prog 59 _ (ReflectliteValue.methodAny (ReflectliteValue.valueError "reflectlite.Value.Type" 0) (fun t _ _ _ => ReflectliteType.toType t)) Tryz.func59 (by kernel_rfl) (by kernel_rfl) (by kernel_rfl) (by kernel_rfl)
 have h3 := @run_callFunc_extern Tryz.prog 60 _ (ReflectliteValue.method (ReflectliteValue.valueError "reflectlite.Value.IsNil" 0) ReflectliteValue.isNil) Tryz.func60 (by kernel_rfl) (by kernel_rfl) (by kernel_rfl) (by kernel_rfl)
 have h4 := @run_callFunc_extern Tryz.prog 180 _ (ReflectliteType.abiMethod fun t => do pure (.int .u8 (← Rtype.kind t))) Tryz.func180 (by kernel_rfl) (by kernel_rfl) (by kernel_rfl) (by kernel_rfl)
 have h5 := @run_callFunc_extern Tryz.prog 192 _ (ReflectliteType.method ReflectliteType.elem) Tryz.func192 (by kernel_rfl) (by kernel_rfl) (by kernel_rfl) (by kernel_rfl)
 have h6 := @run_callFunc_extern Tryz.prog 193 _ (ReflectliteType.relation "Implements" ReflectliteType.implements_) Tryz.func193 (by kernel_rfl) (by kernel_rfl) (by kernel_rfl) (by kernel_rfl)
 have h7 := @run_callFunc_extern Tryz.prog 92 _ ReflectliteType.typeOf Tryz.func92 (by kernel_rfl) (by kernel_rfl) (by kernel_rfl) (by kernel_rfl)
 have h8 := @run_callFunc_extern Tryz.prog 190 _ (ReflectliteType.relation "AssignableTo" ReflectliteType.assignableTo) Tryz.func190 (by kernel_rfl) (by kernel_rfl) (by kernel_rfl) (by kernel_rfl)
 have h9 := @run_callFunc_extern Tryz.prog 93 _ (ReflectliteValue.method (ReflectliteValue.valueError "reflectlite.Value.Elem" 0) ReflectliteValue.elem) Tryz.func93 (by kernel_rfl) (by kernel_rfl) (by kernel_rfl) (by kernel_rfl)
 have h10 := @run_callFunc_extern Tryz.prog 94 _ ReflectliteValue.set Tryz.func94 (by kernel_rfl) (by kernel_rfl) (by kernel_rfl) (by kernel_rfl)
 have q1 := unpackPPF
 have q2 := typePPF
 have q3 := mKind
 have q4 := mElem
 have q5 := mImpl
 have q6 := mAssign
 have q7 := kindPPF
 have q8 := kindPF
 have q9 := elemPPF
 have q10 := implPF
 have q11 := typeOfPF
 have q12 := assignFF
 have q13 := unpackPF
 have n8 := isNilPPF ⟨w.heap.size, 0, none⟩ t ((w.alloc (.cells #[.pointer (some t)] 77)).alloc (.cells #[hd 77, .pointer (some ⟨w.heap.size, 0, none⟩), .int .u64 150] 109)) (by simp)
 have hlt : 0 < w.heap.size := World.block_lt_of_cell? w _ hg
 have hg2 : ((w.alloc (.cells #[.pointer (some t)] 77)).alloc (.cells #[hd 77, .pointer (some ⟨w.heap.size, 0, none⟩), .int .u64 150] 109)).cell? ⟨0, 0, none⟩ = some (.iface 145 (.agg #[hd 29])) := by
  rw [World.cell?_alloc_lt _ _ ⟨0, 0, none⟩ (by simp <;> omega), World.cell?_alloc_lt _ _ ⟨0, 0, none⟩ hlt]; exact hg
 have htl : t.block < w.heap.size := World.block_lt_of_cell? w _ ht0
 have el := elemVPPF ⟨w.heap.size, 0, none⟩ t (((w.alloc (.cells #[.pointer (some t)] 77)).alloc (.cells #[hd 77, .pointer (some ⟨w.heap.size, 0, none⟩), .int .u64 150] 109)).alloc (.cells #[hd 77, .pointer (some ⟨w.heap.size, 0, none⟩), .int .u64 150] 109)) (by rw [World.cell?_alloc_lt _ _ ⟨w.heap.size, 0, none⟩ (by simp; omega)]; simp)
 have st := setPF t ⟨w.heap.size + 1 + 1 + 1, 0, none⟩ e old (behind w 77 56 t (.pointer (some e)))
  (by rw [World.cell?_alloc_at _ _ _ _ (by simp)]; rfl)
  (by rw [World.cell?_alloc_lt _ _ t (by simp; omega), World.cell?_alloc_lt _ _ t (by simp; omega), World.cell?_alloc_lt _ _ t (by simp; omega), World.cell?_alloc_lt _ _ t htl]; exact ht0)
  (by rw [World.frozen?_alloc_old _ _ t (by simp; omega), World.frozen?_alloc_old _ _ t (by simp; omega), World.frozen?_alloc_old _ _ t (by simp; omega), World.frozen?_alloc_old _ _ t (Nat.ne_of_lt htl)]; exact hf0)
 go_enter Tryz.func36, Tryz.ntmps36
 go_wp2
 refine wp_loop_rounds 1 ?_
 rw [rounds_succ]
 go_wp2
 go_ret
 exact ⟨rfl, rfl⟩
/- errors.As at a fault that wraps a code, the target a code: the chain is walked. -/

theorem noAs (v : Value) (xT : TypeId) (w : World) : (Instr.typeAssert (.iface 56 v) xT 150 true).run Tryz.prog w = .ok (.tuple #[.nilIface, .bool false]) w := run_typeAssert_lacksB Tryz.underlying150 (by kernel_rfl) (by kernel_rfl) v xT w
theorem hasUnwrap (v : Value) (xT : TypeId) (w : World) : (Instr.typeAssert (.iface 56 v) xT 153 true).run Tryz.prog w = .ok (.tuple #[.iface 56 v, .bool true]) w := run_typeAssert_hasB Tryz.underlying153 (by kernel_rfl) v xT w
set_option maxRecDepth 100000 in
set_option maxHeartbeats 4000000 in
theorem as_code_fault (n : Int) (b : Nat) (t : Addr) (old : Value) (w : World) (hg : w.cell? ⟨0, 0, none⟩ = some (.iface 145 (.agg #[hd 29]))) (ht0 : w.cell? t = some old) (hf0 : w.frozen? t = false)
  (he1 : w.cell? ⟨b, 1, none⟩ = some (.iface 55 (.int .i64 n))) :
  Calls Tryz.prog 36 #[.iface 56 (.pointer (some ⟨b, 0, none⟩)), .iface 76 (.pointer (some t))] w fun ev w' => ev = .returned (.bool true) ∧ w' = (behind w 76 55 t (.int .i64 n)).setCell t (.int .i64 n) := by
 have h1 := @run_callFunc_extern Tryz.prog 58 _ (fun args => ReflectliteValue.unpack (args.getD 0 (.tuple #[]))) Tryz.func58 (by kernel_rfl) (by kernel_rfl) (by kernel_rfl) (by kernel_rfl)
 have h2 := @run_callFunc_extern Tryz.prog 59 _ (ReflectliteValue.methodAny (ReflectliteValue.valueError "reflectlite.Value.Type" 0) (fun t _ _ _ => ReflectliteType.toType t)) Tryz.func59 (by kernel_rfl) (by kernel_rfl) (by kernel_rfl) (by kernel_rfl)
 have h3 := @run_callFunc_extern Tryz.prog 60 _ (ReflectliteValue.method (ReflectliteValue.valueError "reflectlite.Value.IsNil" 0) ReflectliteValue.isNil) Tryz.func60 (by kernel_rfl) (by kernel_rfl) (by kernel_rfl) (by kernel_rfl)
 have h4 := @run_callFunc_extern Tryz.prog 180 _ (ReflectliteType.abiMethod fun t => do pure (.int .u8 (← Rtype.kind t))) Tryz.func180 (by kernel_rfl) (by kernel_rfl) (by kernel_rfl) (by kernel_rfl)
 have h5 := @run_callFunc_extern Tryz.prog 192 _ (ReflectliteType.method ReflectliteType.elem) Tryz.func192 (by kernel_rfl) (by kernel_rfl) (by kernel_rfl) (by kernel_rfl)
 have h6 := @run_callFunc_extern Tryz.prog 193 _ (ReflectliteType.relation "Implements" ReflectliteType.implements_) Tryz.func193 (by kernel_rfl) (by kernel_rfl) (by kernel_rfl) (by kernel_rfl)
 have h7 := @run_callFunc_extern Tryz.prog 92 _ ReflectliteType.typeOf Tryz.func92 (by kernel_rfl) (by kernel_rfl) (by kernel_rfl) (by kernel_rfl)
 have h8 := @run_callFunc_extern Tryz.prog 190 _ (ReflectliteType.relation "AssignableTo" ReflectliteType.assignableTo) Tryz.func190 (by kernel_rfl) (by kernel_rfl) (by kernel_rfl) (by kernel_rfl)
 have h9 := @run_callFunc_extern Tryz.prog 93 _ (ReflectliteValue.method (ReflectliteValue.valueError "reflectlite.Value.Elem" 0) ReflectliteValue.elem) Tryz.func93 (by kernel_rfl) (by kernel_rfl) (by kernel_rfl) (by kernel_rfl)
 have h10 := @run_callFunc_extern Tryz.prog 94 _ ReflectliteValue.set Tryz.func94 (by kernel_rfl) (by kernel_rfl) (by kernel_rfl) (by kernel_rfl)
 have q1 := unpackPC
 have q2 := typePC
 have q3 := mKind
 have q4 := mElem
 have q5 := mImpl
 have q6 := mAssign
 have q7 := kindPC
 have q8 := kindC
 have q9 := elemPC
 have q10 := implC
 have q11 := typeOfC
 have q12 := assignCC
 have q13 := unpackC
 have q14 := typeOfPF
 have q15 := assignFC
 have q16 := unwrapAhead
 have q17 := unwrapIs
 have q18 := noAs
 have q19 := hasUnwrap
 have n8 := isNilPC ⟨w.heap.size, 0, none⟩ t ((w.alloc (.cells #[.pointer (some t)] 76)).alloc (.cells #[hd 76, .pointer (some ⟨w.heap.size, 0, none⟩), .int .u64 150] 109)) (by simp)
 have hlt : 0 < w.heap.size := World.block_lt_of_cell? w _ hg
 have hg2 : ((w.alloc (.cells #[.pointer (some t)] 76)).alloc (.cells #[hd 76, .pointer (some ⟨w.heap.size, 0, none⟩), .int .u64 150] 109)).cell? ⟨0, 0, none⟩ = some (.iface 145 (.agg #[hd 29])) := by
  rw [World.cell?_alloc_lt _ _ ⟨0, 0, none⟩ (by simp <;> omega), World.cell?_alloc_lt _ _ ⟨0, 0, none⟩ hlt]; exact hg
 have htl : t.block < w.heap.size := World.block_lt_of_cell? w _ ht0
 have hbl : b < w.heap.size := World.block_lt_of_cell? w _ he1
 have hx : (((w.alloc (.cells #[.pointer (some t)] 76)).alloc (.cells #[hd 76, .pointer (some ⟨w.heap.size, 0, none⟩), .int .u64 150] 109)).alloc (.cells #[hd 76, .pointer (some ⟨w.heap.size, 0, none⟩), .int .u64 150] 109)).cell? ⟨b, 1, none⟩ = some (.iface 55 (.int .i64 n)) := by
  rw [World.cell?_alloc_lt _ _ ⟨b, 1, none⟩ (by simp <;> omega), World.cell?_alloc_lt _ _ ⟨b, 1, none⟩ (by simp <;> omega), World.cell?_alloc_lt _ _ ⟨b, 1, none⟩ hbl]; exact he1
 have el := elemVPC ⟨w.heap.size, 0, none⟩ t (((w.alloc (.cells #[.pointer (some t)] 76)).alloc (.cells #[hd 76, .pointer (some ⟨w.heap.size, 0, none⟩), .int .u64 150] 109)).alloc (.cells #[hd 76, .pointer (some ⟨w.heap.size, 0, none⟩), .int .u64 150] 109)) (by rw [World.cell?_alloc_lt _ _ ⟨w.heap.size, 0, none⟩ (by simp; omega)]; simp)
 have st := setC t ⟨w.heap.size + 1 + 1 + 1, 0, none⟩ n old (behind w 76 55 t (.int .i64 n))
  (by rw [World.cell?_alloc_at _ _ _ _ (by simp)]; rfl)
  (by rw [World.cell?_alloc_lt _ _ t (by simp; omega), World.cell?_alloc_lt _ _ t (by simp; omega), World.cell?_alloc_lt _ _ t (by simp; omega), World.cell?_alloc_lt _ _ t htl]; exact ht0)
  (by rw [World.frozen?_alloc_old _ _ t (by simp; omega), World.frozen?_alloc_old _ _ t (by simp; omega), World.frozen?_alloc_old _ _ t (by simp; omega), World.frozen?_alloc_old _ _ t (Nat.ne_of_lt htl)]; exact hf0)
 go_enter Tryz.func36, Tryz.ntmps36
 go_wp2
 refine wp_loop_rounds 2 ?_
 rw [rounds_succ]
 go_wp2
 rw [rounds_succ]
 go_wp2
 go_ret
 exact ⟨rfl, rfl⟩
end Go.Proofs.YtemflcojebanlaaGreatDoor.ErrAs
/- The contracts of the statements' Code and Fault: which code an error has, and at which place it is. -/
namespace Go.Proofs.YtemflcojebanlaaGreatDoor.ErrAs
open Go Go.RowKit

theorem hid {p : Prop} (h : p) : Hid p := h
/-- the variable errors.errorType holds the handle of the type error -/
def ErrVar (w : World) : Prop := w.cell? ⟨0, 0, none⟩ = some (.iface 145 (.agg #[hd 29]))
theorem ErrVar.lt {w : World} (h : ErrVar w) : 0 < w.heap.size := World.block_lt_of_cell? w _ h
theorem ErrVar.below {w w' : World} (h : ErrVar w) (hb : Below w.heap.size w w') : ErrVar w' := (hb.cell (p := ⟨0, 0, none⟩) h.lt).trans h
/-- a fault lies in memory: its place, and the code that it wraps -/
def FaultAt (w : World) (b : Nat) (p n : Int) : Prop := w.heap[b]? = some (.cells #[.int .i64 p, .iface 55 (.int .i64 n)] 58 (0, 0))
theorem FaultAt.lt {w : World} {b : Nat} {p n : Int} (h : FaultAt w b p n) : b < w.heap.size := (Array.getElem?_eq_some_iff.1 h).1
theorem FaultAt.below {w w' : World} {b : Nat} {p n : Int} (h : FaultAt w b p n) (hb : Below w.heap.size w w') : FaultAt w' b p n := (hb.block b h.lt).trans h
theorem FaultAt.cell0 {w : World} {b : Nat} {p n : Int} (h : FaultAt w b p n) : w.cell? ⟨b, 0, none⟩ = some (.int .i64 p) := cell_of_row w b 0 _ _ _ h
theorem FaultAt.cell1 {w : World} {b : Nat} {p n : Int} (h : FaultAt w b p n) : w.cell? ⟨b, 1, none⟩ = some (.iface 55 (.int .i64 n)) := cell_of_row w b 1 _ _ _ h

/-- what errors.As leaves: the target's variable is set, all that lies below it is as it was -/
theorem after_below (w : World) (T E : Nat) (t : Addr) (v : Value) (ht : t.block ≤ w.heap.size) : Below t.block w ((behind w T E t v).setCell t v) :=
 (((((Below.refl _ w).alloc ht _).alloc (by simp; omega) _).alloc (by simp; omega) _).alloc (by simp; omega) _).setCell (Nat.le_refl _) _
theorem after_cell (w : World) (T E : Nat) (t : Addr) (v old : Value) (h : w.cell? t = some old) : ((behind w T E t v).setCell t v).cell? t = some v := by
 have ht := World.block_lt_of_cell? w _ h
 have h2 : (behind w T E t v).cell? t = some old := by
  rw [World.cell?_alloc_lt _ _ t (by simp <;> omega), World.cell?_alloc_lt _ _ t (by simp <;> omega), World.cell?_alloc_lt _ _ t (by simp <;> omega), World.cell?_alloc_lt _ _ t ht]
  exact h
 exact World.cell?_setCell_same (behind w T E t v) t v h2

set_option maxHeartbeats 1000000 in
theorem code_nil (w : World) : Calls Tryz.prog 20 #[.nilIface] w fun e w' => e = .returned (.int .i64 0) ∧ w = w' := by
 go_enter Tryz.func20, Tryz.ntmps20
 go_wp2
 go_ret
 exact ⟨rfl, rfl⟩
set_option maxHeartbeats 1000000 in
theorem code_code (n : Int) (w : World) (hn : 0 < n) (hv : ErrVar w) : Calls Tryz.prog 20 #[.iface 55 (.int .i64 n)] w fun e w' => e = .returned (.int .i64 n) ∧ Below w.heap.size w w' := by
 have hB : Below w.heap.size w (w.alloc (.cells #[.int .i64 0] 55)) := (Below.refl _ w).alloc (Nat.le_refl _) _
 have hc : (w.alloc (.cells #[.int .i64 0] 55)).cell? ⟨w.heap.size, 0, none⟩ = some (.int .i64 0) := by rw [World.cell?_alloc_at _ _ _ _ (by simp)]; rfl
 have c1 := as_code n ⟨w.heap.size, 0, none⟩ (.int .i64 0) (w.alloc (.cells #[.int .i64 0] 55)) (hv.below hB) hc (by simp)
 have B2 := hB.trans (after_below (w.alloc (.cells #[.int .i64 0] 55)) 76 55 ⟨w.heap.size, 0, none⟩ (.int .i64 n) (by simp))
 have k2 := after_cell (w.alloc (.cells #[.int .i64 0] 55)) 76 55 ⟨w.heap.size, 0, none⟩ (.int .i64 n) _ hc
 have C1 := hid c1
 have H2 := hid B2
 have K2 := hid k2
 clear c1 B2 k2 hB hc hv
 go_enter Tryz.func20, Tryz.ntmps20
 go_wp2_with fail
 refine C1.out.mono ?_
 rintro e W2 ⟨rfl, hW2⟩
 have k3 := K2.out
 have B3 := hid H2.out
 rw [← hW2] at k3 B3
 clear C1 H2 K2 hW2
 go_wp2_with fail
 go_ret
 exact ⟨rfl, B3.out⟩
set_option maxHeartbeats 1000000 in
theorem code_fault (b : Nat) (p n : Int) (w : World) (hn : 0 < n) (hv : ErrVar w) (hf : FaultAt w b p n) : Calls Tryz.prog 20 #[.iface 56 (.pointer (some ⟨b, 0, none⟩))] w fun e w' => e = .returned (.int .i64 n) ∧ Below w.heap.size w w' := by
 have hB : Below w.heap.size w (w.alloc (.cells #[.int .i64 0] 55)) := (Below.refl _ w).alloc (Nat.le_refl _) _
 have hc : (w.alloc (.cells #[.int .i64 0] 55)).cell? ⟨w.heap.size, 0, none⟩ = some (.int .i64 0) := by rw [World.cell?_alloc_at _ _ _ _ (by simp)]; rfl
 have c1 := as_code_fault n b ⟨w.heap.size, 0, none⟩ (.int .i64 0) (w.alloc (.cells #[.int .i64 0] 55)) (hv.below hB) hc (by simp) (hf.below hB).cell1
 have B2 := hB.trans (after_below (w.alloc (.cells #[.int .i64 0] 55)) 76 55 ⟨w.heap.size, 0, none⟩ (.int .i64 n) (by simp))
 have k2 := after_cell (w.alloc (.cells #[.int .i64 0] 55)) 76 55 ⟨w.heap.size, 0, none⟩ (.int .i64 n) _ hc
 have C1 := hid c1
 have H2 := hid B2
 have K2 := hid k2
 clear c1 B2 k2 hB hc hv hf
 go_enter Tryz.func20, Tryz.ntmps20
 go_wp2_with fail
 refine C1.out.mono ?_
 rintro e W2 ⟨rfl, hW2⟩
 have k3 := K2.out
 have B3 := hid H2.out
 rw [← hW2] at k3 B3
 clear C1 H2 K2 hW2
 go_wp2_with fail
 go_ret
 exact ⟨rfl, B3.out⟩

set_option maxHeartbeats 1000000 in
theorem fault_fault (b : Nat) (p q n : Int) (w : World) (hn : 0 < n) (hv : ErrVar w) (hf : FaultAt w b p n) : Calls Tryz.prog 21 #[.iface 56 (.pointer (some ⟨b, 0, none⟩)), .int .i64 n, .int .i64 q] w fun e w' => e = .returned (.bool (p == q)) ∧ Below w.heap.size w w' := by
 have hB : Below w.heap.size w (w.alloc (.cells #[.pointer none] 56)) := (Below.refl _ w).alloc (Nat.le_refl _) _
 have hc : (w.alloc (.cells #[.pointer none] 56)).cell? ⟨w.heap.size, 0, none⟩ = some (.pointer none) := by rw [World.cell?_alloc_at _ _ _ _ (by simp)]; rfl
 have hfz : (w.alloc (.cells #[.pointer none] 56)).frozen? ⟨w.heap.size, 0, none⟩ = false := by simp
 have c1 := code_fault b p n (w.alloc (.cells #[.pointer none] 56)) hn (hv.below hB) (hf.below hB)
 have hn0 : ((n : Int) == 0) = false := by simp; omega
 have C1 := hid c1
 have HV := hid (hv.below hB)
 have HF := hid (hf.below hB)
 have HF0 := hid hf.lt
 have HB := hid hB
 have HC := hid hc
 have HZ := hid hfz
 clear c1 hv hf hB hc hfz
 go_enter Tryz.func21, Tryz.ntmps21
 go_wp2_with fail
 refine C1.out.mono ?_
 rintro e W2 ⟨rfl, hb2⟩
 have hc2 : W2.cell? ⟨w.heap.size, 0, none⟩ = some (.pointer none) := (hb2.cell (p := ⟨w.heap.size, 0, none⟩) (by simp)).trans HC.out
 have hz2 : W2.frozen? ⟨w.heap.size, 0, none⟩ = false := (hb2.frozen (p := ⟨w.heap.size, 0, none⟩) (by simp)).trans HZ.out
 have hs2 : w.heap.size < W2.heap.size := by have := hb2.size; simp at this; omega
 have c2 := as_fault ⟨b, 0, none⟩ ⟨w.heap.size, 0, none⟩ (.pointer none) W2 (HV.out.below hb2) hc2 hz2
 have B3 := (HB.out.trans (hb2.mono (by simp))).trans (after_below W2 77 56 ⟨w.heap.size, 0, none⟩ (.pointer (some ⟨b, 0, none⟩)) (by show w.heap.size ≤ _; omega))
 have k3 := after_cell W2 77 56 ⟨w.heap.size, 0, none⟩ (.pointer (some ⟨b, 0, none⟩)) _ hc2
 have f2 := HF.out.below hb2
 have f3 : FaultAt ((behind W2 77 56 ⟨w.heap.size, 0, none⟩ (.pointer (some ⟨b, 0, none⟩))).setCell ⟨w.heap.size, 0, none⟩ (.pointer (some ⟨b, 0, none⟩))) b p n := by
  have h0 : b < w.heap.size := HF0.out
  unfold FaultAt
  rw [(after_below W2 77 56 ⟨w.heap.size, 0, none⟩ (.pointer (some ⟨b, 0, none⟩)) (by show w.heap.size ≤ _; omega)).block b h0]
  exact f2
 have C2 := hid c2
 have H3 := hid B3
 have K3 := hid k3
 have F3 := hid f3
 clear c2 B3 k3 f2 f3 hc2 hz2 hb2 hs2
 go_wp2_with fail
 refine C2.out.mono ?_
 rintro e W3 ⟨rfl, hW3⟩
 have k4 := K3.out
 have f4 := F3.out
 have B4 := hid H3.out
 rw [← hW3] at k4 f4 B4
 have d0 := f4.cell0
 clear C1 C2 H3 K3 F3 hW3 f4 HV HF HB HC HZ
 go_wp2_with fail
 go_ret
 exact ⟨rfl, B4.out⟩
end Go.Proofs.YtemflcojebanlaaGreatDoor.ErrAs
/- Contracts of names.livesKnown, names.formed. -/
namespace Go.Proofs.YtemflcojebanlaaGreatDoor.NmC
open Go Go.RowKit Go.Lib Go.Sort Go.Maps LexP TreeP LexC TreeC NmP

/-- the value of a function, open -/
theorem fn_val (nm pl zl cl li pp zp cp lip gk gn gm pg zg cg gq po zo co lio pd zd cd lib ke ne te me pe ze ce qe) : (TreeP.Fn.mk nm (.slice pl zl cl) li (.slice pp zp cp) lip (.mk gk gn gm (.slice pg zg cg) gq) (.slice po zo co) lio (.slice pd zd cd) lib (.mk ke ne te me (.slice pe ze ce) qe)).val =
  .agg #[.string nm, .slice pl zl cl, .slice pp zp cp, .int .i64 gk, .string gn, .bool gm, .slice pg zg cg, .slice po zo co, .slice pd zd cd, .int .i64 ke, .int .i64 ne, .string te, .bool me, .slice pe ze ce] := rfl
set_option maxHeartbeats 8000000 in
set_option maxRecDepth 100000 in
theorem livesKnown_any (f : TreeP.Fn) (bm : Nat) (w : World) (hw : wF f ≤ 1048576) (hin : f.In w) (hv : VarsAt w bm (f.lives.map bs)) :
  Calls Tryz.prog 42 #[f.val, .map (some bm)] w fun r w' => r = .returned (.bool (livesKnownB f)) ∧ Below w.heap.size w w' := by
 have hin0 := hin
 obtain ⟨R, hR⟩ : ∃ R, livesKnownB f = R := ⟨_, rfl⟩
 rw [hR]
 unfold livesKnownB at hR
 have CT0 := fun (kb lb : Nat) (W : World) (hb : Below w.heap.size w W) (hk : W.cell? ⟨kb, 0, none⟩ = some (.func (.func 76) #[] #[.pointer (some ⟨lb, 0, none⟩)])) (hl : LivesAt W lb (f.lives.map bs)) =>
  everyType_lives kb (livesT (f.lives.map bs)) f W hw (hin0.keep (Keeps.of_below hb)) (fun t W' h1 h2 h3 => livesF2_any t kb lb (f.lives.map bs) W' h1 h2 (later h3 hk) (hl.below h3))
 obtain ⟨q, hq⟩ : ∃ q, (f.pars.all (fun p => livesT (f.lives.map bs) p.type) && livesT (f.lives.map bs) f.gives) = q := ⟨_, rfl⟩
 rw [hq] at hR CT0
 clear hq hin0
 obtain ⟨nm, pl, zl, cl, li, pp, zp, cp, pars, gik, gn, gm, pg, zg, cg, gq, po, zo, co, lio, pd, zd, cd, lib, ke, ne, te, me, pe, ze, ce, qe, rfl⟩ := fn_parts hin
 obtain ⟨_, _, _, iO, _, _⟩ := hin
 simp only at iO hR hv
 unfold wF at hw
 simp only at hw
 have hON := wNs_len lio
 obtain ⟨_, _, e, _⟩ := id iO
 rw [List.length_map] at e
 injection e with e1 e2 e3
 subst e2
 clear e1 e3
 have hsO := fun (j : Nat) (s : ByteArray) (h : lio[j]? = some s) => wNs_get lio j s h
 generalize hL : lio.length = L at *
 have HL := hid hL
 have HX := hid iO
 have HS := hid hR
 have CT := hid CT0
 have HV := hid hv
 have HSZ := hid hsO
 rw [fn_val] at *
 have X0 : BoxAt (w.alloc (.cells #[.string nm, .slice pl zl cl, .slice pp zp cp, .int .i64 gik, .string gn, .bool gm, .slice pg zg cg, .slice po L co, .slice pd zd cd, .int .i64 ke, .int .i64 ne, .string te, .bool me, .slice pe ze ce] 42)) w.heap.size [.string nm, .slice pl zl cl, .slice pp zp cp, .int .i64 gik, .string gn, .bool gm, .slice pg zg cg, .slice po L co, .slice pd zd cd, .int .i64 ke, .int .i64 ne, .string te, .bool me, .slice pe ze ce] := BoxAt.new w _ _
 have X1 : BoxAt ((w.alloc (.cells #[.string nm, .slice pl zl cl, .slice pp zp cp, .int .i64 gik, .string gn, .bool gm, .slice pg zg cg, .slice po L co, .slice pd zd cd, .int .i64 ke, .int .i64 ne, .string te, .bool me, .slice pe ze ce] 42)).alloc (.cells #[.map (some bm)] 81)) (w.alloc (.cells #[.string nm, .slice pl zl cl, .slice pp zp cp, .int .i64 gik, .string gn, .bool gm, .slice pg zg cg, .slice po L co, .slice pd zd cd, .int .i64 ke, .int .i64 ne, .string te, .bool me, .slice pe ze ce] 42)).heap.size [.map (some bm)] := BoxAt.new _ _ _
 rw [World.size_alloc] at X1
 have X00 := hid (X0.later ((Below.refl _ _).alloc (Nat.le_refl _) (.cells #[.map (some bm)] 81)))
 have X11 := hid X1
 have B0 := hid (show Below w.heap.size w ((w.alloc (.cells #[.string nm, .slice pl zl cl, .slice pp zp cp, .int .i64 gik, .string gn, .bool gm, .slice pg zg cg, .slice po L co, .slice pd zd cd, .int .i64 ke, .int .i64 ne, .string te, .bool me, .slice pe ze ce] 42)).alloc (.cells #[.map (some bm)] 81)) from ((Below.refl _ _).alloc (Nat.le_refl _) _).alloc (by simp) _)
 have d7 := box_get X00.out (j := 7) rfl
 clear X0 X1 hR CT0 hv iO hL hsO
 go_enter Tryz.func42, Tryz.ntmps42
 go_wp2_with fail
 clear d7
 generalize World.alloc (World.alloc w _) _ = W1 at *
 go_loopg [11] L (fun gf v wx => ∃ i : Nat, v = .int .i64 (i : Int) ∧ i ≤ L ∧ L ≤ i + gf ∧ Hid (R = (((lio.map bs).drop i).all (fun s => (li.map bs).contains s) && q)) ∧ Hid (Below W1.heap.size W1 wx))
 case atStart => exact ⟨0, rfl, by omega, by omega, hid (by rw [← HS.out]; rfl), hid (Below.refl _ _)⟩
 case round =>
  obtain ⟨i, rfl, hi, hg, HR, HB1⟩ := hrel
  have HB := hid (B0.out.trans (HB1.out.mono B0.out.size))
  have Y0 := hid (X00.out.later HB1.out)
  have Y1 := hid (X11.out.later HB1.out)
  have m0 := box_get Y1.out (j := 0) rfl
  by_cases hlt : i < L
  ·obtain ⟨s, ht⟩ : ∃ s, lio[i]? = some s := ⟨lio[i]'(by rw [HL.out]; exact hlt), List.getElem?_eq_getElem _⟩
   obtain ⟨b, off, cap', e, _, hx⟩ := Lies.at (HX.out.keep (Keeps.of_below HB.out)) (i := i) (by rw [List.length_map, HL.out]; exact hlt)
   injection e with e1 e2 e3
   subst e1
   clear e2 e3
   have x0 : wr.cell? ⟨b, off + i, none⟩ = some (.string s) := by have := hx i (nmCells s) (by rw [List.getElem?_map, ht]; rfl) 0 _ rfl; simpa using this
   have hsz := HSZ.out i s ht
   have hlk := vars_look (HV.out.below HB.out) (s := s) (by omega)
   have hd := all_drop (fun s => (li.map bs).contains s) (l := lio.map bs) (i := i) (x := bs s) (by rw [List.getElem?_map, ht]; rfl)
   have hr := HR.out
   rw [hd] at hr
   generalize (li.map bs).contains (bs s) = c at *
   have HQ := hid hr
   clear hx ht hd hr HR
   cases c with
   | false =>
    have K : R = false := by rw [HQ.out]; rfl
    subst K
    go_wp2_with fail
    go_ret
    exact ⟨rfl, HB.out⟩
   | true =>
    have K : Hid (R = (((lio.map bs).drop (i + 1)).all (fun s => (li.map bs).contains s) && q)) := hid (by rw [HQ.out, Bool.true_and])
    clear HQ
    go_wp2_with fail
    go_roundg (gk - 1)
    case measure => omega
    case rel => exact ⟨i + 1, by go_num, by omega, by omega, K, HB1⟩
  ·obtain rfl : i = L := by omega
   have hr := HR.out
   rw [drop_len (by rw [List.length_map, HL.out]; exact Nat.le_refl _), List.all_nil, Bool.true_and] at hr
   subst hr
   have hb2 : Below wr.heap.size wr (wr.alloc (.cells #[.func (.func 76) #[] #[.pointer (some ⟨w.heap.size + 1, 0, none⟩)]] 64)) := (Below.refl _ _).alloc (Nat.le_refl _) _
   have hk := box_cell wr [.func (.func 76) #[] #[.pointer (some ⟨w.heap.size + 1, 0, none⟩)]] 64 0 _ rfl
   have HB2 := hid (HB.out.trans (hb2.mono HB.out.size))
   have C1 := hid (CT.out wr.heap.size (w.heap.size + 1) _ HB2.out hk ⟨bm, later hb2 m0, HV.out.below HB2.out⟩)
   have Z0 := hid (Y0.out.later hb2)
   have c0 := box_get Z0.out (j := 0) rfl
   have c1 := box_get Z0.out (j := 1) rfl
   have c2 := box_get Z0.out (j := 2) rfl
   have c3 := box_get Z0.out (j := 3) rfl
   have c4 := box_get Z0.out (j := 4) rfl
   have c5 := box_get Z0.out (j := 5) rfl
   have c6 := box_get Z0.out (j := 6) rfl
   have c7 := box_get Z0.out (j := 7) rfl
   have c8 := box_get Z0.out (j := 8) rfl
   have c9 := box_get Z0.out (j := 9) rfl
   have c10 := box_get Z0.out (j := 10) rfl
   have c11 := box_get Z0.out (j := 11) rfl
   have c12 := box_get Z0.out (j := 12) rfl
   have c13 := box_get Z0.out (j := 13) rfl
   clear hb2 hk HR HS CT
   go_wp2_with fail
   refine C1.out.mono ?_
   rintro e W2 ⟨rfl, hb2⟩
   go_wp2_with fail
   go_ret
   exact ⟨rfl, HB2.out.trans (hb2.mono HB2.out.size)⟩
end Go.Proofs.YtemflcojebanlaaGreatDoor.NmC
