/- names.setOf, names.paramNames; the small closures. -/
import Derived.Test.YtemflcojebanlaaGreatDoorJ07
import Derived.Test.YtemflcojebanlaaGreatDoorJ16
import Derived.Test.YtemflcojebanlaaGreatDoorJ17
namespace Go.Proofs.YtemflcojebanlaaGreatDoor.NmC
open Go Go.RowKit Go.Lib Go.Sort Go.Maps LexP TreeP LexC TreeC NmP

/-- a set of names that knows whether two of those laid into it were alike -/
def SetAt (w : World) (b : Nat) (l : List Nm) : Prop :=
 ∃ D, w.ownsMap Tryz.prog 9 RB b l.length D ∧ (∀ s, has D (ky s) = l.contains s) ∧ (∀ s z, l.contains s = true → D.atKey (ky s) z = .lit (.bool true)) ∧ decide (Maps.size D = l.length) = distB [] l
theorem SetAt.vars {w : World} {b : Nat} {l : List Nm} (h : SetAt w b l) : VarsAt w b l := by obtain ⟨D, h1, h2, h3, _⟩ := h; exact ⟨D, h1, h2, h3⟩
theorem set_made (w : World) : SetAt (w.alloc (.map #[] 0)) w.heap.size [] := ⟨.map [], World.ownsMap_made _ _ _ _, fun s => rfl, fun s z h => by simp at h, rfl⟩
theorem set_put {w : World} {b : Nat} {scope : List Nm} {s : ByteArray} (h : SetAt w b scope) (hs : s.size ≤ 1048576) (hl : scope.length ≤ 4194304) :
  ∃ w', (Instr.mapUpdate 81 (.map (some b)) (.string s) (.bool true)).run Tryz.prog w = .ok () w' ∧ SetAt w' b (scope ++ [bs s]) ∧ w.grownBy w' (some b) := by
 obtain ⟨D, h1, h2, h3, h4⟩ := h
 obtain ⟨w', hrun, hown, hg⟩ := h1.update KK Tryz.underlying81 (by unfold maxLen; omega) (key_of hs) (plainElem_bool Tryz.underlying4 true)
 have hI := h1.isMap
 have hT := h1.tidy KK
 have hsz := h1.size_le
 refine ⟨w', hrun, ⟨_, by rw [List.length_append]; exact hown, fun t => ?_, fun t z ht => ?_, ?_⟩, hg⟩
 ·by_cases e : t = bs s
  ·subst e
   rw [has_put_same hI (key_lit hs)]
   simp
  ·rw [has_put_other (by simpa [ky] using e), h2]
   simp [e]
 ·by_cases e : t = bs s
  ·subst e
   exact atKey_put_same hI (key_lit hs) _ _
  ·rw [atKey_put_other (by simpa [ky] using e)]
   exact h3 t z (by simpa [e] using ht)
 ·rw [size_put hT, h2, distB_snoc, ← h4, List.nil_append, List.length_append, List.length_singleton]
  cases hc : scope.contains (bs s) with
  | true => simp; omega
  | false => simp
section
variable {w : World}
theorem wpList_put_set {ops : Array Oper} {rest : List Oper} {o : Oper} {a : Act} {Q : Exit → Act → World → Prop} (hgd : o.guard = none) (m x v : Operand) (ho : o.op = .mapUpdate 81 m x v)
  (b : Nat) (scope : List Nm) (s : ByteArray) (hm : a.eval m = .map (some b)) (hx : a.eval x = .string s) (hv : a.eval v = .bool true) (h : SetAt w b scope) (hs : s.size ≤ 1048576) (hl : scope.length ≤ 4194304)
  (hK : ∀ w', SetAt w' b (scope ++ [bs s]) → w.grownBy w' (some b) → wpList Tryz.prog ops Q rest (a.put o.dst undef) w') : wpList Tryz.prog ops Q (o :: rest) a w := by
 refine wpList_plain hgd fun K' hK' => ?_
 obtain ⟨w', hrun, r1, r2⟩ := set_put h hs hl
 unfold Oper.wp
 simp [execOp, ho, hm, hx, hv, hrun, Result.andThen]
 exact hK' _ _ (hK w' r1 r2)
theorem wpList_put_vars {ops : Array Oper} {rest : List Oper} {o : Oper} {a : Act} {Q : Exit → Act → World → Prop} (hgd : o.guard = none) (m x v : Operand) (ho : o.op = .mapUpdate 81 m x v)
  (b : Nat) (scope : List Nm) (s : ByteArray) (hm : a.eval m = .map (some b)) (hx : a.eval x = .string s) (hv : a.eval v = .bool true) (h : VarsAt w b scope) (hs : s.size ≤ 1048576) (hl : scope.length ≤ 4194304)
  (hK : ∀ w', VarsAt w' b (scope ++ [bs s]) → w.grownBy w' (some b) → wpList Tryz.prog ops Q rest (a.put o.dst undef) w') : wpList Tryz.prog ops Q (o :: rest) a w := by
 refine wpList_plain hgd fun K' hK' => ?_
 obtain ⟨w', hrun, r1, r2⟩ := vars_put h hs hl
 unfold Oper.wp
 simp [execOp, ho, hm, hx, hv, hrun, Result.andThen]
 exact hK' _ _ (hK w' r1 r2)
theorem wpList_put_ahead {ops : Array Oper} {rest : List Oper} {o : Oper} {a : Act} {Q : Exit → Act → World → Prop} (hgd : o.guard = none) (m x v : Operand) (ho : o.op = .mapUpdate 60 m x v)
  (b : Nat) (l : List TreeP.Fn) (f : TreeP.Fn) (hm : a.eval m = .map (some b)) (hx : a.eval x = .string f.name) (hv : a.eval v = .int .i64 (f.pars.length : Int)) (h : AheadAt w b l) (hs : f.name.size ≤ 1048576) (hl : l.length ≤ 4194304)
  (hn : parsN (bs f.name) l = none) (hp : f.pars.length ≤ 1048576)
  (hK : ∀ w', AheadAt w' b (l ++ [f]) → w.grownBy w' (some b) → wpList Tryz.prog ops Q rest (a.put o.dst undef) w') : wpList Tryz.prog ops Q (o :: rest) a w := by
 refine wpList_plain hgd fun K' hK' => ?_
 obtain ⟨w', hrun, r1, r2⟩ := ahead_put h hs hl hn hp
 unfold Oper.wp
 simp [execOp, ho, hm, hx, hv, hrun, Result.andThen]
 exact hK' _ _ (hK w' r1 r2)
end
set_option maxHeartbeats 2000000 in
set_option maxRecDepth 100000 in
theorem setOf_any (l : List ByteArray) (v : Value) (w : World) (hN : Names w v l) (hs : ∀ s ∈ l, s.size ≤ 1048576) :
  Calls Tryz.prog 40 #[v] w fun r w' => ∃ b, r = .returned (.tuple #[.map (some b), .bool (distB [] (l.map bs))]) ∧ VarsAt w' b (l.map bs) ∧ Below w.heap.size w w' ∧ w.heap.size ≤ b := by
 have hmk := @run_makeMap Tryz.prog
 obtain ⟨p, cap, rfl, hcap, hx⟩ := id hN.lies
 have HX := hid hN.lies
 have hll := hN.len
 rw [List.length_map] at *
 generalize hL : l.length = L at *
 have HL := hid hL
 have HSZ := hid hs
 have S0 := hid (set_made w)
 have B0 := hid ((Below.refl w.heap.size w).alloc (Nat.le_refl _) (.map #[] 0))
 clear hx hL hs hN
 go_enter Tryz.func40, Tryz.ntmps40
 go_wp2_with fail
 generalize w.alloc _ = W1 at *
 go_loopg [9] L (fun gf u wx => ∃ i : Nat, u = .int .i64 (i : Int) ∧ i ≤ L ∧ L ≤ i + gf ∧ Hid (SetAt wx w.heap.size ((l.take i).map bs)) ∧ Hid (Below w.heap.size w wx))
 case atStart => exact ⟨0, rfl, by omega, by omega, S0, B0⟩
 case round =>
  obtain ⟨i, rfl, hi, hg, HS, HB⟩ := hrel
  clear S0 B0
  by_cases hlt : i < L
  ·obtain ⟨s, ht⟩ : ∃ s, l[i]? = some s := ⟨l[i]'(by rw [HL.out]; exact hlt), List.getElem?_eq_getElem _⟩
   obtain ⟨b, off, cap', e, _, hx⟩ := Lies.at (HX.out.keep (Keeps.of_below HB.out)) (i := i) (by rw [List.length_map, HL.out]; exact hlt)
   injection e with e1 e2 e3
   subst e1
   clear e2 e3
   have x0 : wr.cell? ⟨b, off + i, none⟩ = some (.string s) := by have := hx i (nmCells s) (by rw [List.getElem?_map, ht]; rfl) 0 _ rfl; simpa using this
   have hsz : s.size ≤ 1048576 := HSZ.out s (List.mem_of_getElem? ht)
   have htk : (l.take (i + 1)).map bs = (l.take i).map bs ++ [bs s] := by rw [List.take_add_one, ht, List.map_append]; rfl
   have HTK := hid htk
   have hln : ((l.take i).map bs).length ≤ 4194304 := by rw [List.length_map, List.length_take, HL.out]; omega
   have HLN := hid hln
   clear hx ht htk hln
   go_wp2_with (at_mapUpdate; refine wpList_put_set rfl _ _ _ rfl w.heap.size ((l.take i).map bs) s rfl rfl rfl HS.out hsz HLN.out ?_; intro w1 hs1 hg1)
   have HS1 : Hid (SetAt w1 w.heap.size ((l.take (i + 1)).map bs)) := hid (by rw [HTK.out]; exact hs1)
   have HB1 := hid (HB.out.grown hg1 HB.out.size (fun r hr => by cases hr; exact Nat.le_refl _))
   clear hs1 hg1
   go_wp2_with fail
   go_roundg (gk - 1)
   case measure => omega
   case rel => exact ⟨i + 1, by go_num, by omega, by omega, HS1, HB1⟩
  ·obtain rfl : i = L := by omega
   have hS : SetAt wr w.heap.size (l.map bs) := by have := HS.out; rw [← HL.out, List.take_length] at this; exact this
   have HV := hid hS.vars
   obtain ⟨D, h1, _, _, h4⟩ := hS
   have HOW := hid h1
   rw [List.length_map, HL.out] at h4
   have hq : (((Maps.size D : Nat) : Int) == (i : Int)) = distB [] (l.map bs) := by rw [← h4, Bool.eq_iff_iff]; simp; omega
   have HQ := hid hq
   clear h1 h4 HS hq
   go_wp2_with (at_len; refine wpList_len_own _ rfl _ 81 rfl 9 4 Tryz.underlying81 RB w.heap.size _ D rfl HOW.out ?_)
   go_ret2
   exact ⟨w.heap.size, by rw [← HQ.out]; rfl, HV.out, HB.out, Nat.le_refl _⟩

set_option maxHeartbeats 4000000 in
set_option maxRecDepth 100000 in
theorem paramNames_any (f : TreeP.Fn) (w : World) (hw : wF f ≤ 1048576) (hin : f.In w) :
  Calls Tryz.prog 41 #[f.val] w fun r w' => ∃ v, r = .returned v ∧ Names w' v (f.pars.map Pa.name) ∧ Below w.heap.size w w' := by
 obtain ⟨_, ⟨iP, iPs⟩, _, _, _, _⟩ := hin
 obtain ⟨z0, z1, z2, z7, z8⟩ := Fn.cells_one f
 unfold wF at hw
 have hP := wPas_len f.pars
 obtain ⟨p, cap, hpv, hcap, _⟩ := id iP
 rw [List.length_map] at *
 unfold TreeP.Fn.val
 rw [hpv] at z2 iP
 have HX := hid iP
 have HI := hid iPs
 generalize hL : f.pars.length = L at *
 have hLb : L ≤ 1048576 := by omega
 generalize f.pars = pars at *
 generalize TreeP.Fn.cells f = cs at *
 have HL := hid hL
 have X0 := hid (BoxAt.new w cs 42)
 have hb0 : Below w.heap.size w (w.alloc (.cells cs.toArray 42 (0, 0))) := (Below.refl _ _).alloc (Nat.le_refl _) _
 have d2 := X0.out 2 _ z2
 have hsz : w.heap.size + 1 = (w.alloc (.cells cs.toArray 42 (0, 0))).heap.size := (World.size_alloc ..).symm
 clear hL iP iPs hpv z0 z1 z2 z7 z8 hw hP X0
 go_enter Tryz.func41, Tryz.ntmps41
 go_wp2_with fail
 clear d2
 generalize w.alloc _ = W1 at *
 have O0 := hid (own_nil W1 (w.heap.size + 1))
 have P0 : Hid (Below (w.heap.size + 1) W1 W1) := hid (Below.refl _ _)
 have HB0 := hid hb0
 clear hb0
 go_loopg [3, 9] L (fun gf u v wx => ∃ i : Nat, v = .int .i64 (i : Int) ∧ i ≤ L ∧ L ≤ i + gf ∧ Hid (OwnN wx (w.heap.size + 1) u ((pars.take i).map Pa.name)) ∧ Hid (Below (w.heap.size + 1) W1 wx))
 case atStart => exact ⟨0, rfl, by omega, by omega, O0, P0⟩
 case round =>
  obtain ⟨i, rfl, hi, hg, HO, HP⟩ := hrel
  clear O0 P0
  have HB := hid (HB0.out.trans (HP.out.mono (by omega)))
  have hszr : w.heap.size + 1 ≤ wr.heap.size := by rw [hsz]; exact HP.out.size
  by_cases hlt : i < L
  ·obtain ⟨x, hx0⟩ : ∃ x, pars[i]? = some x := ⟨pars[i]'(by rw [HL.out]; exact hlt), List.getElem?_eq_getElem _⟩
   obtain ⟨b, off, cap', e, _, hx⟩ := Lies.at (HX.out.keep (Keeps.of_below HB.out)) (i := i) (by rw [List.length_map, HL.out]; exact hlt)
   injection e with e1 e2 e3
   subst e1
   clear e2 e3
   have hx' := hx i _ (by rw [List.getElem?_map, hx0]; rfl)
   have htk : (pars.take (i + 1)).map Pa.name = (pars.take i).map Pa.name ++ [x.name] := by rw [List.take_add_one, hx0, List.map_append]; rfl
   have HTK := hid htk
   obtain ⟨nm, k, life, mt, v, kids, rfl⟩ := pa_open x
   obtain ⟨kp, kl, rfl, _, _⟩ := id (show Lies w 4 v (kids.map Ty.cells) by have := HI.out _ (List.mem_of_getElem? hx0); unfold Pa.In at this; rw [Ty.In] at this; exact this.1)
   rw [List.length_map] at *
   generalize kids.length = KL at *
   have y0 : wr.cell? ⟨b, off + i * 5, none⟩ = some (.string nm) := hx' 0 _ rfl
   have y1 : wr.cell? ⟨b, off + i * 5 + 1, none⟩ = some (.int .i64 k) := hx' 1 _ rfl
   have y2 : wr.cell? ⟨b, off + i * 5 + 2, none⟩ = some (.string life) := hx' 2 _ rfl
   have y3 : wr.cell? ⟨b, off + i * 5 + 3, none⟩ = some (.bool mt) := hx' 3 _ rfl
   have y4 : wr.cell? ⟨b, off + i * 5 + 4, none⟩ = some (.slice kp KL kl) := hx' 4 _ rfl
   have hln : ((pars.take i).map Pa.name).length + [nm].length ≤ 4194304 := by rw [List.length_map, List.length_take, HL.out, List.length_singleton]; omega
   have LN := hid hln
   clear hx hx' hx0 htk hln
   have HO2 := hid ((HO.out.below ((Below.refl wr.heap.size wr).alloc (Nat.le_refl _) (.cells #[.string nm, .int .i64 k, .string life, .bool mt, .slice kp KL kl] 52))).below ((Below.refl _ _).alloc (Nat.le_refl _) (.cells #[.string nm] 9)))
   have HP2 := hid ((HP.out.alloc hszr (.cells #[.string nm, .int .i64 k, .string life, .bool mt, .slice kp KL kl] 52)).alloc (by rw [World.size_alloc]; omega) (.cells #[.string nm] 9))
   have HC := hid (box_cell (wr.alloc (.cells #[.string nm, .int .i64 k, .string life, .bool mt, .slice kp KL kl] 52)) [.string nm] 9 0 _ rfl)
   rw [World.size_alloc] at HC
   have B4 := hid (show w.heap.size + 1 ≤ ((wr.alloc (.cells #[.string nm, .int .i64 k, .string life, .bool mt, .slice kp KL kl] 52)).alloc (.cells #[.string nm] 9)).heap.size by rw [World.size_alloc, World.size_alloc]; omega)
   go_wp2_with (at_builtin; go_loud (refine wpList_append_names rfl _ _ rfl (w.heap.size + 1) u3 _ ((pars.take i).map Pa.name) [nm] rfl rfl HO2.out (one_lies (Nat.le_refl _) HC.out) LN.out B4.out ?_); intro va wa ha hga)
   have HO5 : Hid (OwnN wa (w.heap.size + 1) va ((pars.take (i + 1)).map Pa.name)) := hid (by rw [HTK.out]; exact ha)
   have HP5 : Hid (Below (w.heap.size + 1) W1 wa) := hid (HP2.out.grown hga B4.out (fun r hr => by
    obtain ⟨_, ⟨rfl, _⟩ | ⟨g', cap, cur, rfl, h3, _⟩⟩ := id HO2.out
    ·cases hr
    ·have : g' = r := by simpa [Value.ownBlock] using hr
     omega))
   clear ha hga HO2 HP2
   go_wp2_with fail
   go_roundg (gk - 1)
   case measure => omega
   case rel => exact ⟨i + 1, by go_num, by omega, by omega, HO5, HP5⟩
  ·obtain rfl : i = L := by omega
   have K := hid (show Names wr u3 (pars.map Pa.name) by have := HO.out.names (by rw [List.length_map, List.length_take, HL.out]; omega); rw [← HL.out, List.take_length] at this; exact this)
   go_wp2_with fail
   go_ret
   exact ⟨_, rfl, K.out, HB.out⟩
end Go.Proofs.YtemflcojebanlaaGreatDoor.NmC
