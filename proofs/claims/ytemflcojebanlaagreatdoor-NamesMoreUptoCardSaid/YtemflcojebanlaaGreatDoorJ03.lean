/- Texts joined: TreeKit, NmPure, NmPureB, NmA, NmB. -/
import Derived.Test.YtemflcojebanlaaGreatDoorJ02
import Derived.Lib.QuietBelow
import Derived.BigQuiet
import Derived.Test.YtemflcojebanlaaGreatDoorJ00
/- Small lemmas of the walks over trees. -/
namespace Go.Proofs.YtemflcojebanlaaGreatDoor.TreeC
open Go Go.RowKit Go.Lib LexP TreeP LexC

/-- a cell that was there reads as it did -/
theorem later {w w' : World} (h : Below w.heap.size w w') {b o : Nat} {u : Value} (hc : w.cell? ⟨b, o, none⟩ = some u) : w'.cell? ⟨b, o, none⟩ = some u := Keeps.of_below h b o u hc
theorem box_cell (w : World) (cs : List Value) (T : TypeId) (j : Nat) (u : Value) (h : cs[j]? = some u) : (w.alloc (.cells cs.toArray T (0, 0))).cell? ⟨w.heap.size, j, none⟩ = some u := by
 rw [Lib.cell_of_heap (heap_alloc_new _ _)]
 simpa using h
theorem drop_cons {α : Type} {l : List α} {n : Nat} {c : α} (h : l[n]? = some c) : l.drop n = c :: l.drop (n + 1) := by
 have hlt : n < l.length := (List.getElem?_eq_some_iff.1 h).1
 rw [List.drop_eq_getElem_cons hlt, (List.getElem?_eq_some_iff.1 h).2]
theorem rightEs_drop {l : List Ex} {i : Nat} {t : Ex} (h : l[i]? = some t) : rightEs (l.drop i) = (rightE t && rightEs (l.drop (i + 1))) := by rw [drop_cons h, rightEs]
theorem rightTs_drop {l : List Ty} {i : Nat} {t : Ty} (h : l[i]? = some t) : rightTs (l.drop i) = (rightT t && rightTs (l.drop (i + 1))) := by rw [drop_cons h, rightTs]


section
variable {P : Program}
/-- a struct is read out of the middle of a row -/
theorem run_loadVar_at (w : World) (b off : Nat) (ty : TypeId) (cs : List Value) (d : TypeDesc) (hc : ∀ (j : Nat) (u : Value), cs[j]? = some u → w.cell? ⟨b, off + j, none⟩ = some u)
  (hu : P.underlying ty = some d) (hd : (match d with | .struct _ | .array _ _ => true | _ => false) = true) (hi : (P.info? ty).map (·.size) = some cs.length) :
  (loadVar ty ⟨b, off, none⟩).run P w = .ok (.agg cs.toArray) w := by
 have hl : (loadCells ⟨b, off, none⟩ cs.length).run P w = .ok cs.toArray w :=
  run_loadCells_list (P := P) w ⟨b, off, none⟩ cs (fun j v hv => by
   have hadd : (⟨b, off, none⟩ : Addr).add j = ⟨b, off + j, none⟩ := by unfold Addr.add; split <;> simp_all
   rw [hadd, hc j v hv])
 cases hq : P.info? ty with
 | none => simp [hq] at hi
 | some i =>
  have hs : i.size = cs.length := by simpa [hq] using hi
  have hagg : (isAgg ty).run P w = .ok true w := by
   unfold isAgg
   rw [Sem.run_bind, run_underlying hu w]
   cases d <;> simp_all
  simp [loadVar, Sem.run_bind, hagg, sizeOf, typeInfo, hq, hs, hl]
theorem wp_load_at {o : Oper} {a : Act} {w : World} {K : Act → World → Prop} {Q : Exit → Act → World → Prop} (ty : TypeId) (x : Operand) (ho : o.op = .load ty x)
  (b off : Nat) (hx : a.eval x = .pointer (some ⟨b, off, none⟩)) (cs : List Value) (d : TypeDesc) (hc : ∀ (j : Nat) (u : Value), cs[j]? = some u → w.cell? ⟨b, off + j, none⟩ = some u)
  (hu : P.underlying ty = some d) (hd : (match d with | .struct _ | .array _ _ => true | _ => false) = true) (hi : (P.info? ty).map (·.size) = some cs.length)
  (h : K (a.put o.dst (.agg cs.toArray)) w) : o.wp P a w K Q := by
 unfold Oper.wp execOp
 simp only [ho, hx, Instr.loadAt, Instr.sureAddr, Sem.run_bind, Sem.run_pure, Result.andThen_ok, run_loadVar_at w b off ty cs d hc hu hd hi]
 exact h
theorem wpList_load_at {ops : Array Oper} {rest : List Oper} {o : Oper} {a : Act} {w : World} {Q : Exit → Act → World → Prop} (hw : Region.wanted o (yielded ops a.tmps) = true) (ty : TypeId) (x : Operand) (ho : o.op = .load ty x)
  (b off : Nat) (hx : a.eval x = .pointer (some ⟨b, off, none⟩)) (cs : List Value) (d : TypeDesc) (hc : ∀ (j : Nat) (u : Value), cs[j]? = some u → w.cell? ⟨b, off + j, none⟩ = some u)
  (hu : P.underlying ty = some d) (hd : (match d with | .struct _ | .array _ _ => true | _ => false) = true) (hi : (P.info? ty).map (·.size) = some cs.length)
  (h : wpList P ops Q rest (a.put o.dst (.agg cs.toArray)) w) : wpList P ops Q (o :: rest) a w := by
 refine wpList_step fun K hK => ?_
 rw [if_pos hw]
 exact wp_load_at ty x ho b off hx cs d hc hu hd hi (hK _ _ h)
end
theorem stSize (s : St) : (Tryz.prog.info? 68).map (·.size) = some s.cells.length := by
 obtain ⟨a, b, ⟨c1, c2, c3, c4, c5, c6⟩, ⟨d1, d2, d3, d4, d5, d6⟩, e, f, g, h⟩ := s
 exact (show (Tryz.prog.info? 68).map (·.size) = some 14 by kernel_rfl)
theorem exSize (s : Ex) : (Tryz.prog.info? 40).map (·.size) = some s.cells.length := by
 obtain ⟨c1, c2, c3, c4, c5, c6⟩ := s
 exact (show (Tryz.prog.info? 40).map (·.size) = some 5 by kernel_rfl)
theorem tySize (s : Ty) : (Tryz.prog.info? 34).map (·.size) = some s.cells.length := by
 obtain ⟨c1, c2, c3, c4, c5⟩ := s
 exact (show (Tryz.prog.info? 34).map (·.size) = some 4 by kernel_rfl)
theorem paSize (s : Pa) : (Tryz.prog.info? 52).map (·.size) = some s.cells.length := by
 obtain ⟨a, ⟨c1, c2, c3, c4, c5⟩⟩ := s
 exact (show (Tryz.prog.info? 52).map (·.size) = some 5 by kernel_rfl)
theorem fnSize (s : TreeP.Fn) : (Tryz.prog.info? 42).map (·.size) = some s.cells.length := by
 obtain ⟨a, b, b1, b2, b3, ⟨c1, c2, c3, c4, c5⟩, d1, d2, d3, d4, ⟨e1, e2, e3, e4, e5, e6⟩⟩ := s
 exact (show (Tryz.prog.info? 42).map (·.size) = some 14 by kernel_rfl)

/-- a block holds these cells -/
def BoxAt (w : World) (b : Nat) (cs : List Value) : Prop := ∀ (j : Nat) (u : Value), cs[j]? = some u → w.cell? ⟨b, j, none⟩ = some u
theorem BoxAt.new (w : World) (cs : List Value) (T : TypeId) : BoxAt (w.alloc (.cells cs.toArray T (0, 0))) w.heap.size cs := fun j u h => box_cell w cs T j u h
theorem BoxAt.later {w w' : World} {b : Nat} {cs : List Value} (h : BoxAt w b cs) (hb : Below w.heap.size w w') : BoxAt w' b cs := fun j u hj => TreeC.later hb (h j u hj)
theorem BoxAt.keep {w w' : World} {b : Nat} {cs : List Value} (h : BoxAt w b cs) (k : Keeps w w') : BoxAt w' b cs := fun j u hj => k _ _ _ (h j u hj)
theorem BoxAt.lt {w : World} {b : Nat} {c : Value} {cs : List Value} (h : BoxAt w b (c :: cs)) : b < w.heap.size := World.block_lt_of_cell? w _ (h 0 c rfl)
theorem St.cells_place {k : Int} {n : ByteArray} {p e : Ex} {tv ev : Value} {thn els : List St} {j : Nat} {u : Value} (h : p.cells[j]? = some u) : (St.mk k n p e tv thn ev els).cells[2 + j]? = some u := by
 obtain ⟨c1, c2, c3, c4, c5, c6⟩ := p
 match j, h with
 | 0, h => exact h
 | 1, h => exact h
 | 2, h => exact h
 | 3, h => exact h
 | 4, h => exact h
 | j + 5, h => simp [Ex.cells] at h
theorem St.cells_expr {k : Int} {n : ByteArray} {p e : Ex} {tv ev : Value} {thn els : List St} {j : Nat} {u : Value} (h : e.cells[j]? = some u) : (St.mk k n p e tv thn ev els).cells[7 + j]? = some u := by
 obtain ⟨c1, c2, c3, c4, c5, c6⟩ := p
 obtain ⟨d1, d2, d3, d4, d5, d6⟩ := e
 match j, h with
 | 0, h => exact h
 | 1, h => exact h
 | 2, h => exact h
 | 3, h => exact h
 | 4, h => exact h
 | j + 5, h => simp [Ex.cells] at h
theorem St.cells_tv (k : Int) (n : ByteArray) (p e : Ex) (tv ev : Value) (thn els : List St) : (St.mk k n p e tv thn ev els).cells[12]? = some tv := by
 obtain ⟨c1, c2, c3, c4, c5, c6⟩ := p
 obtain ⟨d1, d2, d3, d4, d5, d6⟩ := e
 rfl
theorem St.cells_ev (k : Int) (n : ByteArray) (p e : Ex) (tv ev : Value) (thn els : List St) : (St.mk k n p e tv thn ev els).cells[13]? = some ev := by
 obtain ⟨c1, c2, c3, c4, c5, c6⟩ := p
 obtain ⟨d1, d2, d3, d4, d5, d6⟩ := e
 rfl
end Go.Proofs.YtemflcojebanlaaGreatDoor.TreeC
/- The plain mathematics of layer 4 (names): references, whole types, names that are known, what is formed; the program's order of asking beside the document's. No program is imported. -/
namespace Go.Proofs.YtemflcojebanlaaGreatDoor.NmP
open Go Go.RowKit LexP TreeP

mutual
def refsT : Ty → Bool | .mk k _ _ _ kids => k == 4 || refsTs kids
def refsTs : List Ty → Bool | [] => false | t :: ts => refsT t || refsTs ts
end
/-- does it hold what it may not have a reference in? -/
def inK (k : Int) : Bool := k == 2 || k == 4
mutual
def wholeT : Ty → Bool | .mk k _ _ _ kids => wholeTs (inK k) kids
def wholeTs (i : Bool) : List Ty → Bool | [] => true | t :: ts => (wholeT t && !(i && refsT t)) && wholeTs i ts
end
abbrev Nm := List UInt8
def cntN (s : Nm) (l : List Nm) : Nat := l.countP (· == s)
mutual
def livesT (l : List Nm) : Ty → Bool | .mk k life _ _ kids => !(k == 4 && cntN (bs life) l == 0) && livesTs l kids
def livesTs (l : List Nm) : List Ty → Bool | [] => true | t :: ts => livesT l t && livesTs l ts
end
/-- the first function of a name, from a number on; -1: there is none -/
def findN (s : Nm) : List TreeP.Fn → Int → Int
 | [], _ => -1
 | f :: fs, i => if bs f.name == s then i else findN s fs (i + 1)
/-- how many Params the first function of a name has -/
def parsN (s : Nm) : List TreeP.Fn → Option Nat
 | [] => none
 | f :: fs => if bs f.name == s then some f.pars.length else parsN s fs
/-- what an expression's own kind asks -/
def ownE (k : Int) (s : Nm) (n : Nat) (scope : List Nm) (ahead : List TreeP.Fn) : Bool :=
 if k = 2 then decide (0 < cntN s scope) else if k = 9 then parsN s ahead == some n else true
mutual
def exprN (scope : List Nm) (ahead : List TreeP.Fn) : Ex → Bool | .mk k _ s _ _ kids => exprNs scope ahead kids && ownE k (bs s) kids.length scope ahead
def exprNs (scope : List Nm) (ahead : List TreeP.Fn) : List Ex → Bool | [] => true | e :: es => exprN scope ahead e && exprNs scope ahead es
end
/-- the scope behind a statement, as the document has it -/
def behindS (scope : List Nm) (k : Int) (s : Nm) : List Nm := if k = 1 then scope ++ [s] else scope
mutual
def stmtN (scope : List Nm) (ahead : List TreeP.Fn) : St → Bool
 | .mk k s place expr _ thn _ els => (exprN scope ahead expr && exprN scope ahead place && stmtsN scope ahead thn && stmtsN scope ahead els) && !(k == 1 && decide (0 < cntN (bs s) scope))
def stmtsN (scope : List Nm) (ahead : List TreeP.Fn) : List St → Bool
 | [] => true
 | .mk k s place expr tv thn ev els :: ss => stmtN scope ahead (.mk k s place expr tv thn ev els) && stmtsN (behindS scope k (bs s)) ahead ss
end
def stK : St → Int | .mk k _ _ _ _ _ _ _ => k
def stN : St → ByteArray | .mk _ n _ _ _ _ _ _ => n
def behind (scope : List Nm) : List St → List Nm
 | [] => scope
 | s :: ss => behind (behindS scope (stK s) (bs (stN s))) ss
theorem stmtsN_cons (scope : List Nm) (ahead : List TreeP.Fn) (s : St) (ss : List St) : stmtsN scope ahead (s :: ss) = (stmtN scope ahead s && stmtsN (behindS scope (stK s) (bs (stN s))) ahead ss) := by
 obtain ⟨k, n, p, e, tv, th, ev, el⟩ := s
 rw [stmtsN]; rfl
theorem behind_append (scope : List Nm) : ∀ a b : List St, behind scope (a ++ b) = behind (behind scope a) b := by
 intro a
 induction a generalizing scope with
 | nil => intro b; rfl
 | cons s ss ih => intro b; exact ih _ b
/-! ### A function -/
def parNames (ps : List Pa) : List Nm := ps.map (fun p => bs p.name)
/-- Params: no name twice, their lives known -/
def parsOk (lives : List Nm) : List Nm → List Pa → Bool
 | _, [] => true
 | scope, p :: ps => (cntN (bs p.name) scope == 0 && livesT lives p.type) && parsOk lives (scope ++ [bs p.name]) ps
def headOk (f : TreeP.Fn) (ahead : List TreeP.Fn) : Bool :=
 ((parsN (bs f.name) ahead).isNone && livesT (f.lives.map bs) f.gives) && parsOk (f.lives.map bs) [] f.pars && (f.lives.map bs).all (fun s => cntN s (f.lives.map bs) == 1) && (f.outs.map bs).all (fun s => decide (0 < cntN s (f.lives.map bs)))
def wholeF (f : TreeP.Fn) : Bool := wholeT f.gives && f.pars.all (fun p => wholeT p.type)
def bodyOk (f : TreeP.Fn) (ahead : List TreeP.Fn) : Bool := stmtsN (parNames f.pars) ahead f.body && exprN (behind (parNames f.pars) f.body) ahead f.value
/-- why a function isn't formed; 0: it is -/
def formedN (f : TreeP.Fn) (ahead : List TreeP.Fn) : Int := if headOk f ahead then (if wholeF f then (if bodyOk f ahead then 0 else 4) else 5) else 4
def mainB (f : TreeP.Fn) : Bool := bs f.name == [109, 97, 105, 110]
def bareB (f : TreeP.Fn) : Bool := f.lives.length == 0 && f.pars.length == 0 && f.gives.kind == 1
/-- from a function on: a code, and a place -/
def goN : List TreeP.Fn → List TreeP.Fn → Int × Int
 | ahead, [] => match ahead.getLast? with
  | none => (4, 0)
  | some f => if mainB f then (if bareB f then (0, -1) else (5, ahead.length)) else (4, ahead.length)
 | ahead, f :: fs => if formedN f ahead = 0 then goN (ahead ++ [f]) fs else (formedN f ahead, ahead.length)
def checkN (p : List TreeP.Fn) : Int × Int := if rightP p then goN [] p else (2, -1)

/-! ### Small laws -/
theorem refsTs_drop {l : List Ty} {i : Nat} {t : Ty} (h : l[i]? = some t) : refsTs (l.drop i) = (refsT t || refsTs (l.drop (i + 1))) := by
 have hlt : i < l.length := (List.getElem?_eq_some_iff.1 h).1
 rw [List.drop_eq_getElem_cons hlt, (List.getElem?_eq_some_iff.1 h).2, refsTs]
theorem wholeTs_drop {l : List Ty} {i : Nat} {t : Ty} (b : Bool) (h : l[i]? = some t) : wholeTs b (l.drop i) = ((wholeT t && !(b && refsT t)) && wholeTs b (l.drop (i + 1))) := by
 have hlt : i < l.length := (List.getElem?_eq_some_iff.1 h).1
 rw [List.drop_eq_getElem_cons hlt, (List.getElem?_eq_some_iff.1 h).2, wholeTs]
theorem livesTs_drop {l : List Ty} {i : Nat} {t : Ty} (s : List Nm) (h : l[i]? = some t) : livesTs s (l.drop i) = (livesT s t && livesTs s (l.drop (i + 1))) := by
 have hlt : i < l.length := (List.getElem?_eq_some_iff.1 h).1
 rw [List.drop_eq_getElem_cons hlt, (List.getElem?_eq_some_iff.1 h).2, livesTs]
theorem exprNs_drop {l : List Ex} {i : Nat} {t : Ex} (s : List Nm) (a : List TreeP.Fn) (h : l[i]? = some t) : exprNs s a (l.drop i) = (exprN s a t && exprNs s a (l.drop (i + 1))) := by
 have hlt : i < l.length := (List.getElem?_eq_some_iff.1 h).1
 rw [List.drop_eq_getElem_cons hlt, (List.getElem?_eq_some_iff.1 h).2, exprNs]
theorem findN_parsN (s : Nm) : ∀ (l : List TreeP.Fn) (i : Int), 0 ≤ i → (findN s l i = -1 ∧ parsN s l = none) ∨ (∃ (j : Nat) (f : TreeP.Fn), findN s l i = i + j ∧ l[j]? = some f ∧ parsN s l = some f.pars.length)
 | [], _, _ => .inl ⟨rfl, rfl⟩
 | f :: fs, i, hi => by
  rw [findN, parsN]
  by_cases h : (bs f.name == s) = true
  ·exact .inr ⟨0, f, by rw [if_pos h]; simp, rfl, by rw [if_pos h]⟩
  ·rw [if_neg h, if_neg h]
   rcases findN_parsN s fs (i + 1) (by omega) with ⟨h1, h2⟩ | ⟨j, g, h1, h2, h3⟩
   ·exact .inl ⟨h1, h2⟩
   ·exact .inr ⟨j + 1, g, by rw [h1]; push_cast; omega, by simpa using h2, h3⟩
theorem parsN_append (s : Nm) (f : TreeP.Fn) : ∀ l : List TreeP.Fn, parsN s (l ++ [f]) = ((parsN s l).or (if bs f.name == s then some f.pars.length else none))
 | [] => by rw [List.nil_append, parsN]; simp [parsN]
 | g :: l => by
  rw [List.cons_append, parsN, parsN, parsN_append s f l]
  split <;> simp
theorem cntN_pos (s : Nm) (l : List Nm) : decide (0 < cntN s l) = l.contains s := by
 rw [Bool.eq_iff_iff, decide_eq_true_eq, cntN, List.countP_pos_iff, List.contains_iff_mem]
 constructor
 ·rintro ⟨a, ha, e⟩; rw [beq_iff_eq] at e; exact e ▸ ha
 ·intro h; exact ⟨s, h, by simp⟩
theorem cntN_zero (s : Nm) (l : List Nm) : (cntN s l == 0) = !l.contains s := by
 rw [← cntN_pos, Bool.eq_iff_iff]; simp
theorem cntN_append (s : Nm) (l m : List Nm) : cntN s (l ++ m) = cntN s l + cntN s m := by simp [cntN]

/-! ### The program's way: a type's references, on a list of work -/
mutual
/-- does each reference of a type do, one by its life, and by whether it stands in a box or another reference? -/
def everyT (ok : Nm → Bool → Bool) (i : Bool) : Ty → Bool | .mk k life _ _ kids => (!(k == 4) || ok (bs life) i) && everyTs ok (i || inK k) kids
def everyTs (ok : Nm → Bool → Bool) (i : Bool) : List Ty → Bool | [] => true | t :: ts => everyT ok i t && everyTs ok i ts
end
/-- .. of all that stands on shelves -/
def shelvesOk (ok : Nm → Bool → Bool) : List (List Ty × Bool) → Bool
 | [] => true
 | (l, i) :: r => everyTs ok i l && shelvesOk ok r
theorem shelvesOk_append (ok : Nm → Bool → Bool) (a b : List (List Ty × Bool)) : shelvesOk ok (a ++ b) = (shelvesOk ok a && shelvesOk ok b) := by
 induction a with
 | nil => rfl
 | cons x a ih => obtain ⟨l, i⟩ := x; rw [List.cons_append, shelvesOk, shelvesOk, ih, Bool.and_assoc]
mutual
theorem everyT_true : ∀ (t : Ty), everyT (fun _ i => !i) true t = !refsT t
 | .mk k life mt v kids => by
  have := everyTs_true kids
  rw [everyT, refsT, Bool.true_or, this]
  cases (k == 4) <;> simp
theorem everyTs_true : ∀ (l : List Ty), everyTs (fun _ i => !i) true l = !refsTs l
 | [] => rfl
 | t :: ts => by rw [everyTs, refsTs, everyT_true t, everyTs_true ts]; simp
end
mutual
theorem everyT_whole : ∀ (t : Ty), everyT (fun _ i => !i) false t = wholeT t
 | .mk k life mt v kids => by
  rw [everyT, wholeT, Bool.false_or]
  cases h : inK k with
  | true => rw [everyTs_true, wholeTs_in kids]; simp
  | false => rw [everyTs_whole kids]; simp
theorem everyTs_whole : ∀ (l : List Ty), everyTs (fun _ i => !i) false l = wholeTs false l
 | [] => rfl
 | t :: ts => by rw [everyTs, wholeTs, everyT_whole t, everyTs_whole ts]; simp
theorem wholeTs_in : ∀ (l : List Ty), wholeTs true l = !refsTs l
 | [] => rfl
 | t :: ts => by
  have h := norefs_whole t
  rw [wholeTs, refsTs, wholeTs_in ts]
  cases hr : refsT t with
  | true => simp
  | false => rw [h hr]; simp
theorem norefs_whole : ∀ (t : Ty), refsT t = false → wholeT t = true
 | .mk k life mt v kids, h => by
  rw [refsT, Bool.or_eq_false_iff] at h
  rw [wholeT]
  cases hk : inK k with
  | true => rw [wholeTs_in kids, h.2]; rfl
  | false => exact norefs_wholes kids h.2
theorem norefs_wholes : ∀ (l : List Ty), refsTs l = false → wholeTs false l = true
 | [], _ => rfl
 | t :: ts, h => by
  rw [refsTs, Bool.or_eq_false_iff] at h
  rw [wholeTs, norefs_whole t h.1, norefs_wholes ts h.2]; rfl
end
mutual
theorem everyT_lives (l : List Nm) : ∀ (i : Bool) (t : Ty), everyT (fun s _ => l.contains s) i t = livesT l t
 | i, .mk k life mt v kids => by
  rw [everyT, livesT, everyTs_lives l _ kids, cntN_zero]
  cases (k == 4) <;> simp
theorem everyTs_lives (l : List Nm) : ∀ (i : Bool) (ts : List Ty), everyTs (fun s _ => l.contains s) i ts = livesTs l ts
 | _, [] => rfl
 | i, t :: ts => by rw [everyTs, livesTs, everyT_lives l i t, everyTs_lives l i ts]
end
/- Layer 4, plain: the program's order of asking is the document's, of what is right. No program is imported. -/

/-- no name of a list is among those seen, nor twice in it -/
def distB : List Nm → List Nm → Bool
 | _, [] => true
 | seen, s :: r => !seen.contains s && distB (seen ++ [s]) r
theorem distB_iff : ∀ (l seen : List Nm), distB seen l = true ↔ l.Nodup ∧ ∀ s ∈ l, s ∉ seen
 | [], seen => by simp [distB]
 | s :: r, seen => by
  rw [distB, Bool.and_eq_true, distB_iff r, List.nodup_cons, Bool.not_eq_true', ← Bool.not_eq_true, List.contains_iff_mem]
  constructor
  ·rintro ⟨h1, h2, h3⟩
   refine ⟨⟨fun h => (h3 s h) (by simp), h2⟩, fun x hx => ?_⟩
   rcases List.mem_cons.1 hx with rfl | hx
   ·exact h1
   ·exact fun h => h3 x hx (by simp [h])
  ·rintro ⟨⟨h1, h2⟩, h3⟩
   refine ⟨h3 s (by simp), h2, fun x hx h => ?_⟩
   rcases List.mem_append.1 h with h | h
   ·exact h3 x (by simp [hx]) h
   ·have : x = s := by simpa using h
    subst this
    exact h1 hx
theorem distB_snoc (s : Nm) : ∀ (l seen : List Nm), distB seen (l ++ [s]) = (distB seen l && !(seen ++ l).contains s)
 | [], seen => by simp [distB]
 | x :: l, seen => by
  rw [List.cons_append, distB, distB, distB_snoc s l, Bool.and_assoc]
  simp
theorem cnt_one (l : List Nm) : l.all (fun s => cntN s l == 1) = distB [] l := by
 rw [Bool.eq_iff_iff, distB_iff, List.all_eq_true]
 have e : ∀ s, cntN s l = l.count s := fun s => rfl
 constructor
 ·intro h
  refine ⟨List.nodup_iff_count.2 fun a => ?_, by simp⟩
  by_cases ha : a ∈ l
  ·have := h a ha
   rw [beq_iff_eq, e] at this
   omega
  ·rw [List.count_eq_zero_of_not_mem ha]; omega
 ·rintro ⟨h, _⟩ s hs
  have h1 := List.nodup_iff_count.1 h s
  have h2 := List.count_pos_iff.2 hs
  rw [beq_iff_eq, e]
  omega
theorem parsOk_eq (lives : List Nm) : ∀ (ps : List Pa) (seen : List Nm), parsOk lives seen ps = (distB seen (parNames ps) && ps.all (fun p => livesT lives p.type))
 | [], _ => rfl
 | p :: ps, seen => by
  rw [parsOk, parsOk_eq lives ps, cntN_zero, show parNames (p :: ps) = bs p.name :: parNames ps from rfl, distB, List.all_cons]
  cases List.contains seen (bs p.name) <;> cases livesT lives p.type <;> simp
def livesKnownB (f : TreeP.Fn) : Bool := (f.outs.map bs).all (fun s => (f.lives.map bs).contains s) && (f.pars.all (fun p => livesT (f.lives.map bs) p.type) && livesT (f.lives.map bs) f.gives)
def headP (f : TreeP.Fn) (ahead : List TreeP.Fn) : Bool :=
 (parsN (bs f.name) ahead).isNone && distB [] (f.lives.map bs) && distB [] (parNames f.pars) && livesKnownB f
theorem head_eq (f : TreeP.Fn) (ahead : List TreeP.Fn) : headOk f ahead = headP f ahead := by
 rw [headOk, headP, parsOk_eq, cnt_one, livesKnownB]
 rw [show (fun s => decide (0 < cntN s (List.map bs f.lives))) = fun s => List.contains (List.map bs f.lives) s from funext fun s => cntN_pos s _]
 cases (parsN (bs f.name) ahead).isNone <;> cases livesT (f.lives.map bs) f.gives <;> cases distB [] (parNames f.pars) <;> cases f.pars.all (fun p => livesT (f.lives.map bs) p.type) <;> cases distB [] (f.lives.map bs) <;> simp
def wholeP (f : TreeP.Fn) : Bool := f.pars.all (fun p => wholeT p.type) && wholeT f.gives
theorem whole_eq (f : TreeP.Fn) : wholeF f = wholeP f := Bool.and_comm _ _

mutual
/-- the program's way -/
def stmtP (scope : List Nm) (ahead : List TreeP.Fn) : St → Bool
 | .mk k s place expr _ thn _ els => exprN scope ahead expr && (if k = 1 then !scope.contains (bs s) else if k = 2 then exprN scope ahead place else stmtsP scope ahead thn && stmtsP scope ahead els)
def stmtsP (scope : List Nm) (ahead : List TreeP.Fn) : List St → Bool
 | [] => true
 | .mk k s place expr tv thn ev els :: ss => stmtP scope ahead (.mk k s place expr tv thn ev els) && stmtsP (behindS scope k (bs s)) ahead ss
end
theorem stmtsP_cons (scope : List Nm) (ahead : List TreeP.Fn) (s : St) (ss : List St) : stmtsP scope ahead (s :: ss) = (stmtP scope ahead s && stmtsP (behindS scope (stK s) (bs (stN s))) ahead ss) := by
 obtain ⟨k, n, p, e, tv, th, ev, el⟩ := s
 rw [stmtsP]; rfl
theorem none_expr (scope : List Nm) (ahead : List TreeP.Fn) {e : Ex} (h : e.none = true) : exprN scope ahead e = true := by
 obtain ⟨k, n, s, m, v, kids⟩ := e
 unfold Ex.none at h
 simp only [Bool.and_eq_true, beq_iff_eq] at h
 obtain ⟨⟨⟨⟨h1, _⟩, _⟩, _⟩, h5⟩ := h
 have hk : kids = [] := by cases kids with | nil => rfl | cons a b => simp [Ex.kids] at h5
 have hk1 : k = 0 := h1
 subst hk hk1
 simp [exprN, exprNs, ownE]
mutual
theorem stmt_eq (ahead : List TreeP.Fn) : ∀ (s : St) (scope : List Nm), rightS s = true → stmtN scope ahead s = stmtP scope ahead s
 | .mk k n place expr tv thn ev els, scope, h => by
  rw [rightS] at h
  simp only [Bool.and_eq_true] at h
  obtain ⟨⟨⟨_, ht, _⟩, he, _⟩, ha⟩ := h
  have h1 := stmts_eq ahead thn scope ht
  have h2 := stmts_eq ahead els scope he
  rw [stmtN, stmtP, h1, h2]
  unfold askS at ha
  by_cases k1 : k = 1
  ·subst k1
   simp only [if_true, Bool.and_eq_true, beq_iff_eq] at ha
   obtain ⟨⟨_, hp⟩, hl⟩ := ha
   have e1 : thn = [] := by cases thn with | nil => rfl | cons a b => simp at hl
   have e2 : els = [] := by cases els with | nil => rfl | cons a b => simp at hl
   subst e1 e2
   rw [none_expr scope ahead hp, cntN_pos]
   simp [stmtsP]
  ·rw [if_neg k1] at ha
   have hk1 : (k == 1) = false := by simp [k1]
   rw [hk1, if_neg k1]
   by_cases k2 : k = 2
   ·subst k2
    simp only [if_true, Bool.and_eq_true, beq_iff_eq] at ha
    obtain ⟨_, hl⟩ := ha
    have e1 : thn = [] := by cases thn with | nil => rfl | cons a b => simp at hl
    have e2 : els = [] := by cases els with | nil => rfl | cons a b => simp at hl
    subst e1 e2
    simp [stmtsP]
   ·rw [if_neg k2] at ha ⊢
    have hp : place.none = true := by
     by_cases k3 : k = 3
     ·rw [if_pos k3, Bool.and_eq_true] at ha; exact ha.2
     ·rw [if_neg k3] at ha
      by_cases k4 : k = 4
      ·rw [if_pos k4, Bool.and_eq_true, Bool.and_eq_true] at ha; exact ha.1.2
      ·rw [if_neg k4] at ha; cases ha
    rw [none_expr scope ahead hp]
    simp
    rw [Bool.and_assoc]
theorem stmts_eq (ahead : List TreeP.Fn) : ∀ (l : List St) (scope : List Nm), rightSs l = true → stmtsN scope ahead l = stmtsP scope ahead l
 | [], _, _ => rfl
 | .mk k n place expr tv thn ev els :: ss, scope, h => by
  rw [rightSs, Bool.and_eq_true] at h
  rw [stmtsN, stmtsP, stmt_eq ahead _ scope h.1, stmts_eq ahead ss _ h.2]
end
def bodyP (f : TreeP.Fn) (ahead : List TreeP.Fn) : Bool := stmtsP (parNames f.pars) ahead f.body && exprN (behind (parNames f.pars) f.body) ahead f.value
def formedP (f : TreeP.Fn) (ahead : List TreeP.Fn) : Int := if headP f ahead then (if wholeP f then (if bodyP f ahead then 0 else 4) else 5) else 4
theorem formed_eq (f : TreeP.Fn) (ahead : List TreeP.Fn) (h : rightF f = true) : formedN f ahead = formedP f ahead := by
 have hb : rightSs f.body = true := by
  unfold rightF rightL at h
  simp only [Bool.and_eq_true] at h
  exact h.1.1.2.1
 rw [formedN, formedP, head_eq, whole_eq, bodyOk, bodyP, stmts_eq ahead _ _ hb]
end Go.Proofs.YtemflcojebanlaaGreatDoor.NmP
/- Contracts of lienbookref04 (the document's answers of layer 4): names in lists, functions by their names, references, whole types, lives. -/
namespace Go.Proofs.YtemflcojebanlaaGreatDoor.NmC
open Go Go.RowKit Go.Lib LexP TreeP LexC TreeC NmP

theorem cntN_take {l : List ByteArray} {i : Nat} {x s : ByteArray} (h : l[i]? = some x) : cntN (bs s) ((l.take (i + 1)).map bs) = cntN (bs s) ((l.take i).map bs) + if (x.toList == s.toList) = true then 1 else 0 := by
 rw [List.take_add_one, h, List.map_append, cntN_append, Lib.toList_data, Lib.toList_data]
 simp [cntN, List.countP_cons, List.countP_nil]
set_option maxHeartbeats 1000000 in
theorem rIn_any (s : ByteArray) (l : List ByteArray) (v : Value) (w : World) (hl : l.length ≤ 1048576) (hv : Lies w 1 v (l.map nmCells)) :
  Calls Tryz.prog 33 #[.string s, v] w fun r w' => r = .returned (.int .i64 (cntN (bs s) (l.map bs) : Int)) ∧ w = w' := by
 obtain ⟨p, cap, rfl, hcap, hx⟩ := id hv
 obtain ⟨R, hR⟩ : ∃ R, cntN (bs s) (l.map bs) = R := ⟨_, rfl⟩
 rw [hR]
 have HS := hid hR
 have HX := hid hv
 rw [List.length_map] at *
 generalize hL : l.length = L at *
 have HL := hid hL
 clear hx hL hv hR
 go_enter Tryz.func33, Tryz.ntmps33
 go_wp2_with fail
 go_loopg [5, 6] L (fun gf u v wx => ∃ i n : Nat, u = .int .i64 (n : Int) ∧ v = .int .i64 (i : Int) ∧ i ≤ L ∧ n ≤ i ∧ L ≤ i + gf ∧ Hid (cntN (bs s) ((l.take i).map bs) = n) ∧ wx = w)
 case atStart => exact ⟨0, 0, rfl, rfl, by omega, by omega, by omega, hid (by simp [cntN]), rfl⟩
 case round =>
  obtain ⟨i, n, rfl, rfl, hi, hn, hg, HR, rfl⟩ := hrel
  by_cases hlt : i < L
  ·obtain ⟨x, ht⟩ : ∃ x, l[i]? = some x := ⟨l[i]'(by rw [HL.out]; exact hlt), List.getElem?_eq_getElem _⟩
   obtain ⟨b, off, cap', e, _, hx⟩ := Lies.at HX.out (i := i) (by rw [List.length_map, HL.out]; exact hlt)
   injection e with e1 e2 e3
   subst e1
   clear e2 e3
   have x0 : wr.cell? ⟨b, off + i, none⟩ = some (.string x) := by have := hx i (nmCells x) (by rw [List.getElem?_map, ht]; rfl) 0 _ rfl; simpa using this
   have hc := cntN_take (s := s) ht
   clear hx ht
   cases hb : (x.toList == s.toList)
   ·rw [hb] at hc
    have K : Hid (cntN (bs s) ((l.take (i + 1)).map bs) = n) := hid (by rw [hc, HR.out]; simp)
    clear hc
    go_wp2_with fail
    go_roundg (gk - 1)
    case measure => omega
    case rel => exact ⟨i + 1, n, rfl, by go_num, by omega, by omega, by omega, K, rfl⟩
   ·rw [hb] at hc
    have K : Hid (cntN (bs s) ((l.take (i + 1)).map bs) = n + 1) := hid (by rw [hc, HR.out]; simp)
    clear hc
    go_wp2_with fail
    go_roundg (gk - 1)
    case measure => omega
    case rel => exact ⟨i + 1, n + 1, by go_num, by go_num, by omega, by omega, by omega, K, rfl⟩
  ·obtain rfl : i = L := by omega
   have K : R = n := by rw [← HS.out, ← HR.out, ← HL.out, List.take_length]
   subst K
   go_wp2_with fail
   go_ret
   exact ⟨rfl, rfl⟩
theorem findN_drop {s : Nm} {l : List TreeP.Fn} {i : Nat} {f : TreeP.Fn} (h : l[i]? = some f) : findN s (l.drop i) i = if bs f.name == s then (i : Int) else findN s (l.drop (i + 1)) ((i + 1 : Nat) : Int) := by
 rw [drop_cons h, findN]; push_cast; rfl
set_option maxHeartbeats 1000000 in
theorem rFind_any (s : ByteArray) (l : List TreeP.Fn) (v : Value) (w : World) (hl : l.length ≤ 1048576) (hv : Lies w 14 v (l.map TreeP.Fn.cells)) :
  Calls Tryz.prog 13 #[v, .string s] w fun r w' => r = .returned (.int .i64 (findN (bs s) l 0)) ∧ w = w' := by
 obtain ⟨p, cap, rfl, hcap, hx⟩ := id hv
 obtain ⟨R, hR⟩ : ∃ R, findN (bs s) l 0 = R := ⟨_, rfl⟩
 rw [hR]
 have HS := hid hR
 have HX := hid hv
 rw [List.length_map] at *
 generalize hL : l.length = L at *
 have HL := hid hL
 clear hx hL hv hR
 go_enter Tryz.func13, Tryz.ntmps13
 go_wp2_with fail
 go_loopg [5] L (fun gf v wx => ∃ i : Nat, v = .int .i64 (i : Int) ∧ i ≤ L ∧ L ≤ i + gf ∧ Hid (findN (bs s) l 0 = findN (bs s) (l.drop i) (i : Int)) ∧ wx = w)
 case atStart => exact ⟨0, rfl, by omega, by omega, hid (by simp), rfl⟩
 case round =>
  obtain ⟨i, rfl, hi, hg, HR, rfl⟩ := hrel
  by_cases hlt : i < L
  ·obtain ⟨f, ht⟩ : ∃ f, l[i]? = some f := ⟨l[i]'(by rw [HL.out]; exact hlt), List.getElem?_eq_getElem _⟩
   obtain ⟨b, off, cap', e, _, hx⟩ := Lies.at HX.out (i := i) (by rw [List.length_map, HL.out]; exact hlt)
   injection e with e1 e2 e3
   subst e1
   clear e2 e3
   have x0 : wr.cell? ⟨b, off + i * 14, none⟩ = some (.string f.name) := hx i f.cells (by rw [List.getElem?_map, ht]; rfl) 0 _ (by rfl)
   have hc := findN_drop (s := bs s) ht
   clear hx
   cases hb : (f.name.toList == s.toList)
   ·rw [Lib.toList_data, Lib.toList_data] at hb
    rw [show (bs f.name == bs s) = false from hb] at hc
    rw [← Lib.toList_data, ← Lib.toList_data] at hb
    have K : Hid (findN (bs s) l 0 = findN (bs s) (l.drop (i + 1)) ((i + 1 : Nat) : Int)) := hid (by rw [HR.out, hc]; rfl)
    generalize f.name = nm at *
    clear hc ht
    go_wp2_with fail
    go_roundg (gk - 1)
    case measure => omega
    case rel => exact ⟨i + 1, by go_num, by omega, by omega, K, rfl⟩
   ·rw [Lib.toList_data, Lib.toList_data] at hb
    rw [show (bs f.name == bs s) = true from hb] at hc
    rw [← Lib.toList_data, ← Lib.toList_data] at hb
    have K : R = (i : Int) := by rw [← HS.out, HR.out, hc]; rfl
    subst K
    generalize f.name = nm at *
    clear hc ht
    go_wp2_with fail
    go_ret
    exact ⟨rfl, rfl⟩
  ·obtain rfl : i = L := by omega
   have K : R = -1 := by rw [← HS.out, HR.out, ← HL.out, List.drop_length]; rfl
   subst K
   go_wp2_with fail
   go_ret
   exact ⟨rfl, rfl⟩

set_option maxHeartbeats 2000000 in
set_option maxRecDepth 100000 in
theorem rRefs_any : ∀ (n : Nat) (t : Ty) (w : World), wT t ≤ n → n ≤ 1048576 → t.In w → Calls Tryz.prog 28 #[t.val] w fun r w' => r = .returned (.bool (refsT t)) ∧ Below w.heap.size w w' := by
 intro n
 induction n with
 | zero => intro t w h; obtain ⟨k, life, mt, v, kids⟩ := t; rw [wT] at h; omega
 | succ n ih =>
  intro t w hw hn hin
  obtain ⟨k, life, mt, v, kids⟩ := t
  rw [wT] at hw
  rw [Ty.In] at hin
  obtain ⟨hl, hk⟩ := hin
  have hlen := wTs_len kids
  obtain ⟨R, hR⟩ : ∃ R, refsT (.mk k life mt v kids) = R := ⟨_, rfl⟩
  rw [hR]
  rw [refsT] at hR
  simp only [Ty.val_mk]
  have hl' := hl
  obtain ⟨p, cap, rfl, hcap, hx⟩ := hl
  rw [List.length_map] at *
  generalize hL : kids.length = L at *
  have HS := hid hR
  have HL := hid hL
  have HK := hid hk
  have HX := hid hl'
  clear hx hk hL hl' hR
  go_enter Tryz.func28, Tryz.ntmps28
  go_wp2_with fail
  have hb0 : Below w.heap.size w (w.alloc (.cells #[.int .i64 k, .string life, .bool mt, .slice p L cap] 34 (0, 0))) := (Below.refl _ _).alloc (Nat.le_refl _) _
  have c0 := box_cell w [.int .i64 k, .string life, .bool mt, .slice p L cap] 34 0 _ rfl
  have c3 := box_cell w [.int .i64 k, .string life, .bool mt, .slice p L cap] 34 3 _ rfl
  generalize w.alloc _ = W1 at *
  go_loopg [3, 4] L (fun gf u v wx => ∃ (i : Nat) (q : Bool), u = .bool q ∧ v = .int .i64 (i : Int) ∧ i ≤ L ∧ L ≤ i + gf ∧ Hid (R = (q || refsTs (kids.drop i))) ∧ Below W1.heap.size W1 wx)
  case atStart => exact ⟨0, k == 4, rfl, rfl, by omega, by omega, hid (by rw [← HS.out]; rfl), Below.refl _ _⟩
  case round =>
   obtain ⟨i, q, rfl, rfl, hi, hg, HR, hb⟩ := hrel
   have d0 := later hb c0
   have d3 := later hb c3
   have hbw := hb0.trans (hb.mono hb0.size)
   by_cases hlt : i < L
   ·obtain ⟨t', ht⟩ : ∃ t', kids[i]? = some t' := ⟨kids[i]'(by rw [HL.out]; exact hlt), List.getElem?_eq_getElem _⟩
    obtain ⟨b, off, cap', e, _, hx⟩ := Lies.at (HX.out.keep (Keeps.of_below hbw)) (i := i) (by rw [List.length_map, HL.out]; exact hlt)
    injection e with e1 e2 e3
    subst e1
    clear e2 e3
    have hin' : t'.In wr := Ty.In.keep (Keeps.of_below hbw) t' ((Ty.ins_iff w kids).1 HK.out t' (List.mem_of_getElem? ht))
    have hw' := wTs_get kids i t' ht
    have hx' := hx i t'.cells (by rw [List.getElem?_map, ht]; rfl)
    have hr := refsTs_drop ht
    have cI := ih t' wr (by omega) (by omega) hin'
    obtain ⟨k', life', mt', v', kids'⟩ := t'
    unfold Ty.cells at hx'
    simp only [Ty.val_mk] at cI
    have x0 : wr.cell? ⟨b, off + i * 4, none⟩ = some (.int .i64 k') := hx' 0 _ rfl
    have x1 := hx' 1 _ rfl
    have x2 := hx' 2 _ rfl
    have x3 := hx' 3 _ rfl
    clear hx hx' ht hin'
    obtain ⟨c, hc⟩ : ∃ c, refsT (.mk k' life' mt' v' kids') = c := ⟨_, rfl⟩
    rw [hc] at cI hr
    cases q with
    | true =>
     have K : Hid (R = (true || refsTs (kids.drop (i + 1)))) := hid (by rw [HR.out]; rfl)
     clear cI hr hc
     go_wp2_with fail
     go_roundg (gk - 1)
     case measure => omega
     case rel => exact ⟨i + 1, true, rfl, by go_num, by omega, by omega, K, hb⟩
    | false =>
     have K : Hid (R = (c || refsTs (kids.drop (i + 1)))) := hid (by rw [HR.out, hr]; rfl)
     have CI := hid cI
     clear cI hr hc
     go_wp2_with fail
     refine CI.out.mono ?_
     rintro e W2 ⟨rfl, hb2⟩
     go_wp2_with fail
     go_roundg (gk - 1)
     case measure => omega
     case rel => exact ⟨i + 1, c, rfl, by go_num, by omega, by omega, K, hb.trans (hb2.mono hb.size)⟩
   ·obtain rfl : i = L := by omega
    have K : R = q := by rw [HR.out, ← HL.out, List.drop_length]; simp [refsTs]
    subst K
    clear HR
    go_wp2_with fail
    go_ret
    exact ⟨rfl, hbw⟩
/- Contracts of lienbookref04: whole types; lives of a type among names. -/

set_option maxHeartbeats 4000000 in
set_option maxRecDepth 100000 in
theorem rWhole_any : ∀ (n : Nat) (t : Ty) (w : World), wT t ≤ n → n ≤ 1048576 → t.In w → Calls Tryz.prog 12 #[t.val] w fun r w' => r = .returned (.bool (wholeT t)) ∧ Below w.heap.size w w' := by
 intro n
 induction n with
 | zero => intro t w h; obtain ⟨k, life, mt, v, kids⟩ := t; rw [wT] at h; omega
 | succ n ih =>
  intro t w hw hn hin
  obtain ⟨k, life, mt, v, kids⟩ := t
  rw [wT] at hw
  rw [Ty.In] at hin
  obtain ⟨hl, hk⟩ := hin
  have hlen := wTs_len kids
  obtain ⟨R, hR⟩ : ∃ R, wholeT (.mk k life mt v kids) = R := ⟨_, rfl⟩
  rw [hR]
  rw [wholeT] at hR
  simp only [Ty.val_mk]
  have hl' := hl
  obtain ⟨p, cap, rfl, hcap, hx⟩ := hl
  rw [List.length_map] at *
  generalize hL : kids.length = L at *
  have HS := hid hR
  have HL := hid hL
  have HK := hid hk
  have HX := hid hl'
  clear hx hk hL hl' hR
  go_enter Tryz.func12, Tryz.ntmps12
  go_wp2_with fail
  have hb0 : Below w.heap.size w (w.alloc (.cells #[.int .i64 k, .string life, .bool mt, .slice p L cap] 34 (0, 0))) := (Below.refl _ _).alloc (Nat.le_refl _) _
  have c0 := box_cell w [.int .i64 k, .string life, .bool mt, .slice p L cap] 34 0 _ rfl
  have c3 := box_cell w [.int .i64 k, .string life, .bool mt, .slice p L cap] 34 3 _ rfl
  generalize w.alloc _ = W1 at *
  go_loopg [3] L (fun gf v wx => ∃ (i : Nat), v = .int .i64 (i : Int) ∧ i ≤ L ∧ L ≤ i + gf ∧ Hid (R = wholeTs (inK k) (kids.drop i)) ∧ Below W1.heap.size W1 wx)
  case atStart => exact ⟨0, rfl, by omega, by omega, hid (by rw [← HS.out]; rfl), Below.refl _ _⟩
  case round =>
   obtain ⟨i, rfl, hi, hg, HR, hb⟩ := hrel
   have d0 := later hb c0
   have d3 := later hb c3
   have hbw := hb0.trans (hb.mono hb0.size)
   by_cases hlt : i < L
   ·obtain ⟨t', ht⟩ : ∃ t', kids[i]? = some t' := ⟨kids[i]'(by rw [HL.out]; exact hlt), List.getElem?_eq_getElem _⟩
    obtain ⟨b, off, cap', e, _, hx⟩ := Lies.at (HX.out.keep (Keeps.of_below hbw)) (i := i) (by rw [List.length_map, HL.out]; exact hlt)
    injection e with e1 e2 e3
    subst e1
    clear e2 e3
    have hin' : t'.In wr := Ty.In.keep (Keeps.of_below hbw) t' ((Ty.ins_iff w kids).1 HK.out t' (List.mem_of_getElem? ht))
    have hw' := wTs_get kids i t' ht
    have hx' := hx i t'.cells (by rw [List.getElem?_map, ht]; rfl)
    have hr := wholeTs_drop (inK k) ht
    have cI := ih t' wr (by omega) (by omega) hin'
    have cR := hid (fun (W : World) (hW : Below wr.heap.size wr W) => rRefs_any _ t' W (Nat.le_refl _) (by omega) (Ty.In.keep (Keeps.of_below hW) t' hin'))
    obtain ⟨k', life', mt', v', kids'⟩ := t'
    unfold Ty.cells at hx'
    simp only [Ty.val_mk] at cI cR
    have x0 : wr.cell? ⟨b, off + i * 4, none⟩ = some (.int .i64 k') := hx' 0 _ rfl
    have x1 := hx' 1 _ rfl
    have x2 := hx' 2 _ rfl
    have x3 := hx' 3 _ rfl
    clear hx hx' ht hin'
    obtain ⟨c, hc⟩ : ∃ c, wholeT (.mk k' life' mt' v' kids') = c := ⟨_, rfl⟩
    obtain ⟨q, hq⟩ : ∃ q, refsT (.mk k' life' mt' v' kids') = q := ⟨_, rfl⟩
    rw [hc] at cI
    rw [hq] at cR
    rw [hc, hq] at hr
    have CI := hid cI
    clear cI hc hq
    cases c with
    | false =>
     have K : R = false := by rw [HR.out, hr]; rfl
     subst K
     clear hr
     go_wp2_with fail
     refine CI.out.mono ?_
     rintro e W2 ⟨rfl, hb2⟩
     go_wp2_with fail
     go_ret
     exact ⟨rfl, hbw.trans (hb2.mono hbw.size)⟩
    | true =>
     have HB : Hid (∀ W2 : World, Below wr.heap.size wr W2 → Below W1.heap.size W1 W2) := hid (fun W2 h => hb.trans (h.mono hb.size))
     cases hin : inK k with
     | false =>
      have K : Hid (R = wholeTs (inK k) (kids.drop (i + 1))) := hid (by rw [HR.out, hr, hin]; rfl)
      have k2 : (k == 2) = false := by unfold inK at hin; revert hin; cases (k == 2) <;> simp
      have k4 : (k == 4) = false := by unfold inK at hin; revert hin; cases (k == 4) <;> simp
      clear hr hin
      go_wp2_with fail
      refine CI.out.mono ?_
      rintro e W2 ⟨rfl, hb2⟩
      have e0 := later hb2 d0
      have e3 := later hb2 d3
      clear d0 d3 x0 x1 x2 x3
      go_wp2_with fail
      go_roundg (gk - 1)
      case measure => omega
      case rel => exact ⟨i + 1, by go_num, by omega, by omega, K, HB.out _ hb2⟩
     | true =>
      have K : Hid (R = (!q && wholeTs (inK k) (kids.drop (i + 1)))) := hid (by rw [HR.out, hr, hin]; rfl)
      have hk24 : (k == 2) = true ∨ ((k == 2) = false ∧ (k == 4) = true) := by unfold inK at hin; revert hin; cases (k == 2) <;> simp
      clear hr hin
      rcases hk24 with k2 | ⟨k2, k4⟩
      all_goals go_wp2_with fail
      all_goals refine CI.out.mono ?_
      all_goals rintro e W2 ⟨rfl, hb2⟩
      all_goals have e0 := later hb2 d0
      all_goals have e3 := later hb2 d3
      all_goals have y0 := later hb2 x0
      all_goals have y1 := later hb2 x1
      all_goals have y2 := later hb2 x2
      all_goals have y3 := later hb2 x3
      all_goals clear d0 d3 x0 x1 x2 x3
      all_goals go_wp2_with fail
      all_goals refine (cR.out W2 hb2).mono ?_
      all_goals rintro e W3 ⟨rfl, hb3⟩
      all_goals have HB3 := hid (HB.out _ (hb2.trans (hb3.mono hb2.size)))
      all_goals have HW3 := hid (hbw.trans ((hb2.trans (hb3.mono hb2.size)).mono hbw.size))
      all_goals clear hb2 hb3 e0 e3 y0 y1 y2 y3
      all_goals cases q with
       | true =>
        have K2 : R = false := by rw [K.out]; rfl
        subst K2
        go_wp2_with fail
        go_ret
        exact ⟨rfl, HW3.out⟩
       | false =>
        have K2 : Hid (R = wholeTs (inK k) (kids.drop (i + 1))) := hid (by rw [K.out]; rfl)
        go_wp2_with fail
        go_roundg (gk - 1)
        case measure => omega
        case rel => exact ⟨i + 1, by go_num, by omega, by omega, K2, HB3.out⟩
   ·obtain rfl : i = L := by omega
    have K : R = true := by rw [HR.out, ← HL.out, List.drop_length]; simp [wholeTs]
    subst K
    clear HR
    go_wp2_with fail
    go_ret
    exact ⟨rfl, hbw⟩

set_option maxHeartbeats 4000000 in
set_option maxRecDepth 100000 in
theorem rLives_any : ∀ (n : Nat) (t : Ty) (l : List ByteArray) (lv : Value) (w : World), wT t ≤ n → n ≤ 1048576 → t.In w → l.length ≤ 1048576 → Lies w 1 lv (l.map nmCells) →
  Calls Tryz.prog 32 #[t.val, lv] w fun r w' => r = .returned (.bool (livesT (l.map bs) t)) ∧ Below w.heap.size w w' := by
 intro n
 induction n with
 | zero => intro t l lv w h; obtain ⟨k, life, mt, v, kids⟩ := t; rw [wT] at h; omega
 | succ n ih =>
  intro t l lv w hw hn hin hll hlv
  obtain ⟨k, life, mt, v, kids⟩ := t
  rw [wT] at hw
  rw [Ty.In] at hin
  obtain ⟨hl, hk⟩ := hin
  have hlen := wTs_len kids
  have CN := hid (fun (W : World) (k : Keeps w W) => rIn_any life l lv W hll (hlv.keep k))
  obtain ⟨R, hR⟩ : ∃ R, livesT (l.map bs) (.mk k life mt v kids) = R := ⟨_, rfl⟩
  rw [hR]
  rw [livesT] at hR
  simp only [Ty.val_mk]
  have hl' := hl
  obtain ⟨p, cap, rfl, hcap, hx⟩ := hl
  rw [List.length_map] at *
  generalize hL : kids.length = L at *
  have HS := hid hR
  have HL := hid hL
  have HK := hid hk
  have HX := hid hl'
  have HV := hid hlv
  clear hx hk hL hl' hR hlv
  have hb0 : Below w.heap.size w (w.alloc (.cells #[.int .i64 k, .string life, .bool mt, .slice p L cap] 34 (0, 0))) := (Below.refl _ _).alloc (Nat.le_refl _) _
  have c0 := box_cell w [.int .i64 k, .string life, .bool mt, .slice p L cap] 34 0 _ rfl
  have c1 := box_cell w [.int .i64 k, .string life, .bool mt, .slice p L cap] 34 1 _ rfl
  have c3 := box_cell w [.int .i64 k, .string life, .bool mt, .slice p L cap] 34 3 _ rfl
  have HC := hid (CN.out _ (Keeps.of_below hb0))
  clear CN
  by_cases hno : k = 4 ∧ cntN (bs life) (l.map bs) = 0
  ·obtain ⟨rfl, h0⟩ := hno
   rw [h0] at HC
   have K : R = false := by rw [← HS.out, h0]; rfl
   subst K
   go_enter Tryz.func32, Tryz.ntmps32
   go_wp2_with fail
   refine HC.out.mono ?_
   rintro e W2 ⟨rfl, rfl⟩
   go_wp2_with fail
   go_ret
   exact ⟨rfl, hb0⟩
  ·have hR : Hid (R = livesTs (l.map bs) kids) := hid (by
    rw [← HS.out]
    by_cases hk4 : k = 4
    ·have : cntN (bs life) (l.map bs) ≠ 0 := fun h => hno ⟨hk4, h⟩
     have : (cntN (bs life) (l.map bs) == 0) = false := by simp [this]
     rw [this]; simp
    ·have : (k == 4) = false := by simp [hk4]
     rw [this]; rfl)
   have hz : Hid (k = 4 → ((cntN (bs life) (l.map bs) : Int) == 0) = false) := hid (fun hk4 => by
    have : cntN (bs life) (l.map bs) ≠ 0 := fun h => hno ⟨hk4, h⟩
    simp; omega)
   clear hno HS
   generalize cntN (bs life) (l.map bs) = cn at *
   cases hk4 : (k == 4)
   case' true =>
    have z := hz.out (by simpa using hk4)
    go_enter Tryz.func32, Tryz.ntmps32
    go_wp2_with fail
    refine HC.out.mono ?_
    rintro e W2 ⟨rfl, rfl⟩
    clear HC
    go_wp2_with fail
    clear z
   case' false =>
    clear HC
    go_enter Tryz.func32, Tryz.ntmps32
    go_wp2_with fail
   all_goals clear hz hk4
   all_goals generalize w.alloc _ = W1 at *
   all_goals (
    go_loopg [5] L (fun gf v wx => ∃ (i : Nat), v = .int .i64 (i : Int) ∧ i ≤ L ∧ L ≤ i + gf ∧ Hid (R = livesTs (l.map bs) (kids.drop i)) ∧ Below W1.heap.size W1 wx)
    case atStart => exact ⟨0, rfl, by omega, by omega, hR, Below.refl _ _⟩
    case round =>
     obtain ⟨i, rfl, hi, hg, HR, hb⟩ := hrel
     have d3 := later hb c3
     have hbw := hb0.trans (hb.mono hb0.size)
     by_cases hlt : i < L
     ·obtain ⟨t', ht⟩ : ∃ t', kids[i]? = some t' := ⟨kids[i]'(by rw [HL.out]; exact hlt), List.getElem?_eq_getElem _⟩
      obtain ⟨b, off, cap', e, _, hx⟩ := Lies.at (HX.out.keep (Keeps.of_below hbw)) (i := i) (by rw [List.length_map, HL.out]; exact hlt)
      injection e with e1 e2 e3
      subst e1
      clear e2 e3
      have hin' : t'.In wr := Ty.In.keep (Keeps.of_below hbw) t' ((Ty.ins_iff w kids).1 HK.out t' (List.mem_of_getElem? ht))
      have hw' := wTs_get kids i t' ht
      have hx' := hx i t'.cells (by rw [List.getElem?_map, ht]; rfl)
      have hr := livesTs_drop (l.map bs) ht
      have cI := ih t' l lv wr (by omega) (by omega) hin' hll (HV.out.keep (Keeps.of_below hbw))
      obtain ⟨k', life', mt', v', kids'⟩ := t'
      unfold Ty.cells at hx'
      simp only [Ty.val_mk] at cI
      have x0 : wr.cell? ⟨b, off + i * 4, none⟩ = some (.int .i64 k') := hx' 0 _ rfl
      have x1 := hx' 1 _ rfl
      have x2 := hx' 2 _ rfl
      have x3 := hx' 3 _ rfl
      clear hx hx' ht hin'
      obtain ⟨c, hc⟩ : ∃ c, livesT (l.map bs) (.mk k' life' mt' v' kids') = c := ⟨_, rfl⟩
      rw [hc] at cI hr
      have CI := hid cI
      clear cI hc
      cases c with
      | false =>
       have K : R = false := by rw [HR.out, hr]; rfl
       subst K
       clear hr
       go_wp2_with fail
       refine CI.out.mono ?_
       rintro e W2 ⟨rfl, hb2⟩
       go_wp2_with fail
       go_ret
       exact ⟨rfl, hbw.trans (hb2.mono hbw.size)⟩
      | true =>
       have K : Hid (R = livesTs (l.map bs) (kids.drop (i + 1))) := hid (by rw [HR.out, hr]; rfl)
       clear hr
       go_wp2_with fail
       refine CI.out.mono ?_
       rintro e W2 ⟨rfl, hb2⟩
       go_wp2_with fail
       go_roundg (gk - 1)
       case measure => omega
       case rel => exact ⟨i + 1, by go_num, by omega, by omega, K, hb.trans (hb2.mono hb.size)⟩
     ·obtain rfl : i = L := by omega
      have K : R = true := by rw [HR.out, ← HL.out, List.drop_length]; simp [livesTs]
      subst K
      clear HR
      go_wp2_with fail
      go_ret
      exact ⟨rfl, hbw⟩)
end Go.Proofs.YtemflcojebanlaaGreatDoor.NmC
