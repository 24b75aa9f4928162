/- Texts joined: EnvKit, EnvA, EnvB, EnvC. -/
import Derived.Test.YtannfhbocfghkaaDoorProg
import Derived.Test.YtannfhbocfghkaaDoorJ00
import Derived.Carry
import Derived.Deep.Draws
import Derived.WalkKit
import Derived.WalkLawsBesides
import Derived.WalkSpells
import Derived.Lib.QuietBelow
import Derived.BigQuiet
import Derived.WalkSmall
import Derived.Deep.RegionHeld3
/- How loans, types with loans and environments lie in memory; small lemmas of the walks over them. -/
namespace Go.Proofs.YtannfhbocfghkaaDoor.EnvC
open Go Go.RowKit Go.Lib Go.Sort Go.Proofs.YtannfhbocfghkaaDoor.EnvP

theorem hid {p : Prop} (h : p) : Hid p := h
theorem below_of_eq {B : Nat} {w w' : World} (h : w = w') : Below B w w' := h ▸ Below.refl _ _
theorem ret_bool {a b : Bool} (h : a = b) : Ending.returned (.bool a) = .returned (.bool b) := by rw [h]
theorem ret_int {k : IntKind} {a b : Int} (h : a = b) : Ending.returned (.int k a) = .returned (.int k b) := by rw [h]
theorem ret_nat {a b : Nat} (h : a = b) : Ending.returned (.int .i64 (a : Int)) = .returned (.int .i64 (b : Int)) := by rw [h]

end Go.Proofs.YtannfhbocfghkaaDoor.EnvC
namespace Go.Proofs.YtannfhbocfghkaaDoor.EnvP
open Go Go.RowKit
def Pl.cells (p : Pl) : List Value := [.string p.var, p.sv]
def Pl.val (p : Pl) : Value := .agg p.cells.toArray
def Ln.cells (l : Ln) : List Value := [.string l.life, .string l.pl.var, l.pl.sv, .bool l.mt]
def Ln.val (l : Ln) : Value := .agg l.cells.toArray
def ETy.cells : ETy → List Value | .mk k m g lv _ kv _ => [.int .i64 k, .bool m, .bool g, lv, kv]
def ETy.val (t : ETy) : Value := .agg t.cells.toArray
def Bd.cells (b : Bd) : List Value := [.string b.name] ++ b.ty.cells
def Bd.val (b : Bd) : Value := .agg b.cells.toArray
def stCells (i : Int) : List Value := [.int .i64 i]

/-- a slice that is in memory: its elements, of so many cells each, hold these cells -/
def Lies (w : World) (size : Nat) (v : Value) (xs : List (List Value)) : Prop :=
  ∃ p cap, v = .slice p xs.length cap ∧ xs.length ≤ cap ∧ (xs ≠ [] → ∃ b off, p = some ⟨b, off, none⟩ ∧ ∀ (i : Nat) (c : List Value), xs[i]? = some c → ∀ (j : Nat) (u : Value), c[j]? = some u → w.cell? ⟨b, off + i * size + j, none⟩ = some u)
theorem Lies.keep {w w' : World} {size : Nat} {v : Value} {xs : List (List Value)} (h : Lies w size v xs) (k : ∀ b o u, w.cell? ⟨b, o, none⟩ = some u → w'.cell? ⟨b, o, none⟩ = some u) : Lies w' size v xs := by
  obtain ⟨p, cap, h1, h2, h3⟩ := h
  refine ⟨p, cap, h1, h2, fun hne => ?_⟩
  obtain ⟨b, off, h4, h5⟩ := h3 hne
  exact ⟨b, off, h4, fun i c hi j u hj => k _ _ _ (h5 i c hi j u hj)⟩
/-- what reads in the one world reads in the other one -/
def Keeps (w w' : World) : Prop := ∀ b o u, w.cell? ⟨b, o, none⟩ = some u → w'.cell? ⟨b, o, none⟩ = some u
theorem Keeps.of_below {w w' : World} (h : Below w.heap.size w w') : Keeps w w' := fun b o _ hc => by
  have hlt : b < w.heap.size := World.block_lt_of_cell? w _ hc
  exact (h.cell (p := ⟨b, o, none⟩) hlt).trans hc
theorem Keeps.trans {a b c : World} (h : Keeps a b) (k : Keeps b c) : Keeps a c := fun _ _ _ hc => k _ _ _ (h _ _ _ hc)
theorem Keeps.refl (w : World) : Keeps w w := fun _ _ _ h => h
theorem Keeps.drewN (w : World) (n : Nat) : Keeps w (w.drewN n) := fun _ _ _ h => h
theorem Keeps.alloc (w : World) (o : Obj) : Keeps w (w.alloc o) := Keeps.of_below ((Below.refl _ _).alloc (Nat.le_refl _) _)

def Pl.In (w : World) (p : Pl) : Prop := Lies w 1 p.sv (p.steps.map stCells)
mutual
def ETy.In (w : World) : ETy → Prop
  | .mk _ _ _ lv loans kv kids => Lies w 4 lv (loans.map Ln.cells) ∧ (∀ l ∈ loans, l.pl.In w) ∧ Lies w 5 kv (kids.map ETy.cells) ∧ ETy.Ins w kids
def ETy.Ins (w : World) : List ETy → Prop
  | [] => True
  | t :: ts => t.In w ∧ ETy.Ins w ts
end
theorem ETy.ins_iff (w : World) : ∀ l : List ETy, ETy.Ins w l ↔ ∀ t ∈ l, t.In w
  | [] => by simp [ETy.Ins]
  | t :: ts => by simp [ETy.Ins, ETy.ins_iff w ts]
theorem Pl.In.keep {w w' : World} (k : Keeps w w') {p : Pl} (h : p.In w) : p.In w' := Lies.keep h k
mutual
theorem ETy.In.keep {w w' : World} (k : Keeps w w') : ∀ t : ETy, t.In w → t.In w'
  | .mk _ _ _ _ _ _ kids, h => by
    rw [ETy.In] at h ⊢
    exact ⟨h.1.keep k, fun l hl => (h.2.1 l hl).keep k, h.2.2.1.keep k, ETy.Ins.keep k kids h.2.2.2⟩
theorem ETy.Ins.keep {w w' : World} (k : Keeps w w') : ∀ l : List ETy, ETy.Ins w l → ETy.Ins w' l
  | [], _ => by simp [ETy.Ins]
  | t :: ts, h => by
    rw [ETy.Ins] at h ⊢
    exact ⟨ETy.In.keep k t h.1, ETy.Ins.keep k ts h.2⟩
end
/-- an environment, as it lies in memory -/
def EnvIn (w : World) (v : Value) (e : List Bd) : Prop := Lies w 6 v (e.map Bd.cells) ∧ ∀ b ∈ e, b.ty.In w
theorem EnvIn.keep {w w' : World} (k : Keeps w w') {v : Value} {e : List Bd} (h : EnvIn w v e) : EnvIn w' v e := ⟨h.1.keep k, fun b hb => ETy.In.keep k _ (h.2 b hb)⟩
/-- A slice that lies, opened at an index. -/
theorem Lies.at {w : World} {size : Nat} {v : Value} {xs : List (List Value)} (h : Lies w size v xs) {i : Nat} (hi : i < xs.length) :
    ∃ b off cap, v = .slice (some ⟨b, off, none⟩) xs.length cap ∧ xs.length ≤ cap ∧ ∀ (i : Nat) (c : List Value), xs[i]? = some c → ∀ (j : Nat) (u : Value), c[j]? = some u → w.cell? ⟨b, off + i * size + j, none⟩ = some u := by
  obtain ⟨p, cap, h1, h2, h3⟩ := h
  obtain ⟨b, off, rfl, h5⟩ := h3 (fun e => by rw [e] at hi; simp at hi)
  exact ⟨b, off, cap, h1, h2, h5⟩
end Go.Proofs.YtannfhbocfghkaaDoor.EnvP
namespace Go.Proofs.YtannfhbocfghkaaDoor.EnvC
open Go Go.RowKit Go.Lib Go.Sort Go.Proofs.YtannfhbocfghkaaDoor.EnvP
/-- a cell that was there reads as it did -/
theorem later {w w' : World} (h : Below w.heap.size w w') {b o : Nat} {u : Value} (hc : w.cell? ⟨b, o, none⟩ = some u) : w'.cell? ⟨b, o, none⟩ = some u := Keeps.of_below h b o u hc
theorem box_cell (w : World) (cs : List Value) (T : TypeId) (j : Nat) (u : Value) (h : cs[j]? = some u) : (w.alloc (.cells cs.toArray T (0, 0))).cell? ⟨w.heap.size, j, none⟩ = some u := by
  rw [Lib.cell_of_heap (heap_alloc_new _ _)]
  simpa using h
theorem drop_cons {α : Type} {l : List α} {n : Nat} {c : α} (h : l[n]? = some c) : l.drop n = c :: l.drop (n + 1) := by
  have hlt : n < l.length := (List.getElem?_eq_some_iff.1 h).1
  rw [List.drop_eq_getElem_cons hlt, (List.getElem?_eq_some_iff.1 h).2]
section
variable {P : Program}
/-- a struct is read out of the middle of a row -/
theorem run_loadVar_at (w : World) (b off : Nat) (ty : TypeId) (cs : List Value) (d : TypeDesc) (hc : ∀ (j : Nat) (u : Value), cs[j]? = some u → w.cell? ⟨b, off + j, none⟩ = some u)
    (hu : P.underlying ty = some d) (hd : (match d with | .struct _ | .array _ _ => true | _ => false) = true) (hi : (P.info? ty).map (·.size) = some cs.length) :
    (loadVar ty ⟨b, off, none⟩).run P w = .ok (.agg cs.toArray) w := by
  have hl : (loadCells ⟨b, off, none⟩ cs.length).run P w = .ok cs.toArray w :=
    run_loadCells_list (P := P) w ⟨b, off, none⟩ cs (fun j v hv => by
      have hadd : (⟨b, off, none⟩ : Addr).add j = ⟨b, off + j, none⟩ := by unfold Addr.add; split <;> simp_all
      rw [hadd, hc j v hv])
  cases hq : P.info? ty with
  | none => simp [hq] at hi
  | some i =>
    have hs : i.size = cs.length := by simpa [hq] using hi
    have hagg : (isAgg ty).run P w = .ok true w := by
      unfold isAgg
      rw [Sem.run_bind, run_underlying hu w]
      cases d <;> simp_all
    simp [loadVar, Sem.run_bind, hagg, sizeOf, typeInfo, hq, hs, hl]
theorem wp_load_at {o : Oper} {a : Act} {w : World} {K : Act → World → Prop} {Q : Exit → Act → World → Prop} (ty : TypeId) (x : Operand) (ho : o.op = .load ty x)
    (b off : Nat) (hx : a.eval x = .pointer (some ⟨b, off, none⟩)) (cs : List Value) (d : TypeDesc) (hc : ∀ (j : Nat) (u : Value), cs[j]? = some u → w.cell? ⟨b, off + j, none⟩ = some u)
    (hu : P.underlying ty = some d) (hd : (match d with | .struct _ | .array _ _ => true | _ => false) = true) (hi : (P.info? ty).map (·.size) = some cs.length)
    (h : K (a.put o.dst (.agg cs.toArray)) w) : o.wp P a w K Q := by
  unfold Oper.wp execOp
  simp only [ho, hx, Instr.loadAt, Instr.sureAddr, Sem.run_bind, Sem.run_pure, Result.andThen_ok, run_loadVar_at w b off ty cs d hc hu hd hi]
  exact h
theorem wpList_load_at {ops : Array Oper} {rest : List Oper} {o : Oper} {a : Act} {w : World} {Q : Exit → Act → World → Prop} (hw : Region.wanted o (yielded ops a.tmps) = true) (ty : TypeId) (x : Operand) (ho : o.op = .load ty x)
    (b off : Nat) (hx : a.eval x = .pointer (some ⟨b, off, none⟩)) (cs : List Value) (d : TypeDesc) (hc : ∀ (j : Nat) (u : Value), cs[j]? = some u → w.cell? ⟨b, off + j, none⟩ = some u)
    (hu : P.underlying ty = some d) (hd : (match d with | .struct _ | .array _ _ => true | _ => false) = true) (hi : (P.info? ty).map (·.size) = some cs.length)
    (h : wpList P ops Q rest (a.put o.dst (.agg cs.toArray)) w) : wpList P ops Q (o :: rest) a w := by
  refine wpList_step fun K hK => ?_
  rw [if_pos hw]
  exact wp_load_at ty x ho b off hx cs d hc hu hd hi (hK _ _ h)
end
theorem tySize (t : ETy) : (Tryd.prog.info? 31).map (·.size) = some t.cells.length := by
  obtain ⟨c1, c2, c3, c4, c5, c6, c7⟩ := t
  exact (show (Tryd.prog.info? 31).map (·.size) = some 5 by kernel_rfl)
theorem lnSize (l : Ln) : (Tryd.prog.info? 44).map (·.size) = some l.cells.length := (show (Tryd.prog.info? 44).map (·.size) = some 4 by kernel_rfl)
theorem plSize (l : Pl) : (Tryd.prog.info? 42).map (·.size) = some l.cells.length := (show (Tryd.prog.info? 42).map (·.size) = some 2 by kernel_rfl)
theorem bdSize (b : Bd) : (Tryd.prog.info? 33).map (·.size) = some b.cells.length := by
  obtain ⟨a, ⟨c1, c2, c3, c4, c5, c6, c7⟩⟩ := b
  exact (show (Tryd.prog.info? 33).map (·.size) = some 6 by kernel_rfl)

/-- a block holds these cells -/
def BoxAt (w : World) (b : Nat) (cs : List Value) : Prop := ∀ (j : Nat) (u : Value), cs[j]? = some u → w.cell? ⟨b, j, none⟩ = some u
theorem BoxAt.new (w : World) (cs : List Value) (T : TypeId) : BoxAt (w.alloc (.cells cs.toArray T (0, 0))) w.heap.size cs := fun j u h => box_cell w cs T j u h
theorem BoxAt.later {w w' : World} {b : Nat} {cs : List Value} (h : BoxAt w b cs) (hb : Below w.heap.size w w') : BoxAt w' b cs := fun j u hj => EnvC.later hb (h j u hj)
theorem BoxAt.keep {w w' : World} {b : Nat} {cs : List Value} (h : BoxAt w b cs) (k : Keeps w w') : BoxAt w' b cs := fun j u hj => k _ _ _ (h j u hj)
theorem BoxAt.lt {w : World} {b : Nat} {c : Value} {cs : List Value} (h : BoxAt w b (c :: cs)) : b < w.heap.size := World.block_lt_of_cell? w _ (h 0 c rfl)
section
variable {P : Program}
theorem wpQuiet_load_at {ops : Array Oper} {C : World → Prop} {Q : Act → Prop} {rest : List Oper} {o : Oper} {a : Act} (hw : Region.wanted o (yielded ops a.tmps) = true) (ty : TypeId) (x : Operand) (ho : o.op = .load ty x)
    (b off : Nat) (hx : a.eval x = .pointer (some ⟨b, off, none⟩)) (cs : List Value) (d : TypeDesc) (hc : ∀ w, C w → ∀ (j : Nat) (u : Value), cs[j]? = some u → w.cell? ⟨b, off + j, none⟩ = some u)
    (hu : P.underlying ty = some d) (hd : (match d with | .struct _ | .array _ _ => true | _ => false) = true) (hi : (P.info? ty).map (·.size) = some cs.length)
    (h : wpQuiet P ops C Q rest (a.put o.dst (.agg cs.toArray))) : wpQuiet P ops C Q (o :: rest) a := by
  refine wpQuiet_step fun K hK => ?_
  rw [if_pos hw]
  refine ⟨.agg cs.toArray, fun w hCw => ?_, hK _ h⟩
  unfold Oper.quietAt execOp
  simp only [ho, hx, Instr.loadAt, Instr.sureAddr, Sem.run_bind, Sem.run_pure, Result.andThen_ok, run_loadVar_at w b off ty cs d (hc w hCw) hu hd hi]
  exact ⟨rfl, rfl⟩
end
/-- what is read in a world is read in each of the class -/
theorem reg_cells {w : World} {b off : Nat} {cs : List Value} (h : ∀ (j : Nat) (u : Value), cs[j]? = some u → w.cell? ⟨b, off + j, none⟩ = some u) :
    ∀ w', (∃ p : Regrown, w' = grow (redrawn w p.d) p.os) → ∀ (j : Nat) (u : Value), cs[j]? = some u → w'.cell? ⟨b, off + j, none⟩ = some u := by
  rintro w' ⟨p, rfl⟩ j u hj
  exact cell_regrown (h j u hj) _ _
theorem box_get {w : World} {b : Nat} {cs : List Value} (h : BoxAt w b cs) {j : Nat} {u : Value} (hj : cs[j]? = some u) : w.cell? ⟨b, j, none⟩ = some u := h j u hj
theorem rowed_below' (w : World) (Z : Obj) (cs : Array Value) : Below w.heap.size w ((w.alloc Z).setRow w.heap.size cs) := by
  have h := (Below.refl w.heap.size w).alloc (Nat.le_refl _) Z
  refine ⟨h.os, h.tape, h.output, by simp, fun k hk => ?_⟩
  rw [setRow_other _ _ _ _ (by omega)]
  exact h.block k hk
theorem rowed_box' (w : World) (old : Array Value) (T : TypeId) (cs : List Value) : BoxAt ((w.alloc (.cells old T (0, 0))).setRow w.heap.size cs.toArray) w.heap.size cs := fun j u h => by
  rw [cell_setRow_same _ _ _ _ _ _ _ (heap_alloc_new _ _)]
  simp [h]
/-- a function value goes to its function -/
def Enters (g : Nat) : Prop := ∀ (args : Array Value) (w : World), (callFunc g args).run Tryd.prog w = .ok (.enter g args) w
/-- each is one cell -/
def Ones (cs : List Value) : Prop := cs.toArray.all (·.oneCell') = true

theorem slice_one {w : World} {size : Nat} {v : Value} {xs : List (List Value)} (h : Lies w size v xs) : v.oneCell' = true := by
  obtain ⟨p, cap, rfl, _⟩ := h
  rfl
theorem ln_ones {w : World} {l : Ln} (h : l.pl.In w) : Ones l.cells := by
  have := slice_one h
  unfold Ones Ln.cells
  simp_all [Value.oneCell']
theorem pl_ones {w : World} {p : Pl} (h : p.In w) : Ones p.cells := by
  have := slice_one h
  unfold Ones Pl.cells
  simp_all [Value.oneCell']
theorem ty_ones {w : World} {t : ETy} (h : t.In w) : Ones t.cells := by
  obtain ⟨c1, c2, c3, c4, c5, c6, c7⟩ := t
  rw [ETy.In] at h
  have h1 := slice_one h.1
  have h2 := slice_one h.2.2.1
  unfold Ones ETy.cells
  clear h; simp_all [Value.oneCell']
theorem bd_ones {w : World} {b : Bd} (h : b.ty.In w) : Ones b.cells := by
  obtain ⟨a, ⟨c1, c2, c3, c4, c5, c6, c7⟩⟩ := b
  rw [ETy.In] at h
  have h1 := slice_one h.1
  have h2 := slice_one h.2.2.1
  unfold Ones Bd.cells ETy.cells
  clear h; simp_all [Value.oneCell']
end Go.Proofs.YtannfhbocfghkaaDoor.EnvC
/- Contracts of the document's begins, Overlap, before, Cmp (lienbookref05). -/
namespace Go.Proofs.YtannfhbocfghkaaDoor.EnvC
open Go Go.RowKit Go.Lib Go.Sort Go.Proofs.YtannfhbocfghkaaDoor.EnvP

theorem st_at {w : World} {v : Value} {l : List Int} (h : Lies w 1 v (l.map stCells)) : ∃ p cap, v = .slice p l.length cap ∧ l.length ≤ cap ∧ ∀ i x, l[i]? = some x → ∃ b off, p = some ⟨b, off, none⟩ ∧ w.cell? ⟨b, off + i, none⟩ = some (.int .i64 x) := by
  obtain ⟨p, cap, rfl, hc, hx⟩ := h
  rw [List.length_map] at *
  refine ⟨p, cap, rfl, hc, fun i x hi => ?_⟩
  obtain ⟨b, off, e, hx⟩ := hx (fun e => by rw [List.map_eq_nil_iff] at e; rw [e] at hi; simp at hi)
  have := hx i (stCells x) (by rw [List.getElem?_map, hi]; rfl) 0 _ rfl
  exact ⟨b, off, e, by simpa using this⟩
theorem pre_at {a b : List Int} {i : Nat} {x : Int} (hx : a[i]? = some x) : (a.drop i).isPrefixOf (b.drop i) = match b[i]? with | none => false | some y => x == y && (a.drop (i + 1)).isPrefixOf (b.drop (i + 1)) := by
  rw [drop_cons hx]
  cases hb : b[i]? with
  | none => rw [show b.drop i = [] from List.drop_eq_nil_of_le (by simpa using hb)]; rfl
  | some y => rw [drop_cons hb]; rfl
theorem pre_end {a b : List Int} {i : Nat} (h : a.length ≤ i) : (a.drop i).isPrefixOf (b.drop i) = true := by
  rw [List.drop_eq_nil_of_le h]; cases b.drop i <;> rfl

set_option maxHeartbeats 2000000 in
set_option maxRecDepth 100000 in
theorem begins_any (a b : List Int) (va vb : Value) (w : World) (ha : Lies w 1 va (a.map stCells)) (hb : Lies w 1 vb (b.map stCells)) (hla : a.length ≤ 1048576) (hlb : b.length ≤ 1048576) :
    Calls Tryd.prog 71 #[va, vb] w fun r w' => r = .returned (.bool (a.isPrefixOf b)) ∧ Below w.heap.size w w' := by
  obtain ⟨pa, ca, rfl, hca, hxa⟩ := st_at ha
  obtain ⟨pb, cb, rfl, hcb, hxb⟩ := st_at hb
  clear ha hb
  obtain ⟨R, hR⟩ : ∃ R, a.isPrefixOf b = R := ⟨_, rfl⟩
  rw [hR]
  generalize hLa : a.length = La at *
  generalize hLb : b.length = Lb at *
  have HA := hid hxa
  have HB := hid hxb
  have HR := hid hR
  have HL := hid (And.intro hLa hLb)
  clear hxa hxb hR hLa hLb
  go_enter Tryd.func71, Tryd.ntmps71
  go_wp2_with fail
  go_loopg [5] La (fun gf u wx => ∃ i q : Nat, u = .int .i64 (i : Int) ∧ i ≤ La ∧ La ≤ i + gf ∧ i ≤ Lb ∧ Hid (R = (a.drop i).isPrefixOf (b.drop i)) ∧ wx = w.drewN q)
  case atStart => exact ⟨0, 0, rfl, by omega, by omega, by omega, hid (by rw [List.drop_zero, List.drop_zero]; exact HR.out.symm), rfl⟩
  case round =>
    obtain ⟨i, q, rfl, hi, hg, hib, HI, rfl⟩ := hrel
    by_cases hlt : i < La
    · obtain ⟨x, hx⟩ : ∃ x, a[i]? = some x := ⟨a[i]'(by rw [HL.out.1]; exact hlt), List.getElem?_eq_getElem _⟩
      obtain ⟨ba, oa, rfl, xa⟩ := HA.out i x hx
      have hp := pre_at (b := b) hx
      by_cases hlb' : i < Lb
      · obtain ⟨y, hy⟩ : ∃ y, b[i]? = some y := ⟨b[i]'(by rw [HL.out.2]; exact hlb'), List.getElem?_eq_getElem _⟩
        obtain ⟨bb, ob, rfl, xb⟩ := HB.out i y hy
        rw [hy] at hp
        have hd : decide ((Lb : Int) ≤ (i : Int)) = false := by simp; omega
        by_cases hxy : x = y
        · subst hxy
          have HN : Hid (R = (a.drop (i + 1)).isPrefixOf (b.drop (i + 1))) := hid (by rw [HI.out, hp]; simp)
          clear hp hx hy HA HB HR HL HI
          go_wp2_with fail
          go_quiet (fail)
          go_wp2_with fail
          go_roundg (gk - 1)
          case measure => omega
          case rel => exact ⟨i + 1, _, by go_num, by omega, by omega, by omega, HN, rfl⟩
        · have HN : Hid (R = false) := hid (by rw [HI.out, hp]; simp [hxy])
          have hne : (x != y) = true := by simp [hxy]
          clear hp hx hy HA HB HR HL HI hxy
          go_wp2_with fail
          go_quiet (fail)
          go_wp2_with fail
          go_ret
          exact ⟨ret_bool HN.out.symm, by first | exact below_drewN (Below.refl _ _) _ | exact below_drewN (below_drewN (Below.refl _ _) _) _⟩
      · have hy : b[i]? = none := by rw [List.getElem?_eq_none_iff, HL.out.2]; omega
        rw [hy] at hp
        have HN : Hid (R = false) := hid (by rw [HI.out, hp])
        have hd : decide ((Lb : Int) ≤ (i : Int)) = true := by simp; omega
        clear hp hx hy HA HB HR HL HI
        go_wp2_with fail
        go_quiet (fail)
        go_wp2_with fail
        go_ret
        exact ⟨ret_bool HN.out.symm, by first | exact below_drewN (Below.refl _ _) _ | exact below_drewN (below_drewN (Below.refl _ _) _) _⟩
    · have HN : Hid (R = true) := hid (by rw [HI.out]; exact pre_end (by rw [HL.out.1]; omega))
      clear HA HB HR HL HI
      go_wp2_with fail
      go_ret
      exact ⟨ret_bool HN.out.symm, by first | exact below_drewN (Below.refl _ _) _ | exact below_drewN (below_drewN (Below.refl _ _) _) _⟩

end Go.Proofs.YtannfhbocfghkaaDoor.EnvC
/- Contracts of the document's before and Cmp (lienbookref05). -/
namespace Go.Proofs.YtannfhbocfghkaaDoor.EnvC
open Go Go.RowKit Go.Lib Go.Sort Go.Proofs.YtannfhbocfghkaaDoor.EnvP

def StAt (w : World) (p : Option Addr) (l : List Int) : Prop := ∀ i x, l[i]? = some x → ∃ b off, p = some ⟨b, off, none⟩ ∧ w.cell? ⟨b, off + i, none⟩ = some (.int .i64 x)
theorem StAt.later {w w' : World} {p : Option Addr} {l : List Int} (h : StAt w p l) (hb : Below w.heap.size w w') : StAt w' p l := fun i x hi => by
  obtain ⟨b, o, e1, e2⟩ := h i x hi
  exact ⟨b, o, e1, EnvC.later hb e2⟩
theorem lex_at {a b : List Int} {i : Nat} {x y : Int} (hx : a[i]? = some x) (hy : b[i]? = some y) : lexC cmpI (a.drop i) (b.drop i) = if x = y then lexC cmpI (a.drop (i + 1)) (b.drop (i + 1)) else cmpI x y := by
  rw [drop_cons hx, drop_cons hy]
  simp only [lexC]
  by_cases h : x = y
  · rw [if_pos ((good_cmpI.zero x y).2 h), if_pos h]
  · rw [if_neg (fun e => h ((good_cmpI.zero x y).1 e)), if_neg h]
theorem lex_end {a b : List Int} {i : Nat} (ha : i ≤ a.length) (hb : i ≤ b.length) (h : ¬ (i < a.length ∧ i < b.length)) : lexC cmpI (a.drop i) (b.drop i) = if a.length < b.length then -1 else if b.length < a.length then 1 else 0 := by
  by_cases h1 : i < a.length
  · have e : b.drop i = [] := List.drop_eq_nil_of_le (by omega)
    obtain ⟨x, hx⟩ : ∃ x, a[i]? = some x := ⟨a[i], List.getElem?_eq_getElem h1⟩
    rw [e, drop_cons hx, if_neg (by omega), if_pos (by omega)]; rfl
  · have e : a.drop i = [] := List.drop_eq_nil_of_le (by omega)
    rw [e]
    by_cases h2 : i < b.length
    · obtain ⟨y, hy⟩ : ∃ y, b[i]? = some y := ⟨b[i], List.getElem?_eq_getElem h2⟩
      rw [drop_cons hy, if_pos (by omega)]; rfl
    · rw [List.drop_eq_nil_of_le (by omega), if_neg (by omega), if_neg (by omega)]; rfl
theorem cmpI_lt (x y : Int) : (cmpI x y == -1) = decide (x < y) := by
  unfold cmpI Lib.compareInt
  by_cases h : x < y
  · simp [h]
  · by_cases h2 : x > y <;> simp [h, h2]
theorem cmpS_ne {a b : ByteArray} (h : (a.toList == b.toList) = false) : ∀ M, (orI (cmpS a b) M == -1) = Op.bytesLess a.toList b.toList := by
  intro M
  have hz : cmpS a b ≠ 0 := fun e => by
    rw [good_cmpS.zero] at e
    rw [Lib.toList_data, Lib.toList_data] at h
    simp [e] at h
  unfold orI
  rw [if_neg hz, less_eq, Lib.toList_data, Lib.toList_data]
  unfold cmpS
  rw [cmpS_lex]
theorem cmpS_eq {a b : ByteArray} (h : (a.toList == b.toList) = true) : ∀ M, orI (cmpS a b) M = M := by
  intro M
  have hz : cmpS a b = 0 := by
    rw [good_cmpS.zero]
    rw [Lib.toList_data, Lib.toList_data] at h
    simpa using h
  unfold orI
  rw [if_pos hz]
theorem bool_lt (m n : Bool) : (cmpI (oneI m) (oneI n) == -1) = (!m && n) := by cases m <;> cases n <;> rfl

set_option maxHeartbeats 4000000 in
set_option maxRecDepth 100000 in
theorem rBefore_any (a b : Ln) (w : World) (ha : a.pl.In w) (hb : b.pl.In w) (hla : a.pl.steps.length ≤ 1048576) (hlb : b.pl.steps.length ≤ 1048576) :
    Calls Tryd.prog 37 #[a.val, b.val] w fun r w' => r = .returned (.bool (before a b)) ∧ Below w.heap.size w w' := by
  obtain ⟨pa, ca, ea, hca, hxa⟩ := st_at ha
  obtain ⟨pb, cb, eb, hcb, hxb⟩ := st_at hb
  clear ha hb
  obtain ⟨R, hR⟩ : ∃ R, before a b = R := ⟨_, rfl⟩
  rw [hR]
  unfold before cmpLn at hR
  obtain ⟨la, ⟨va, sa, ta⟩, ma⟩ := a
  obtain ⟨lb, ⟨vb, sb, tb⟩, mb⟩ := b
  unfold Ln.val Ln.cells
  dsimp only at *
  subst ea eb
  generalize hLa : ta.length = La at *
  generalize hLb : tb.length = Lb at *
  have HL := hid (And.intro hLa hLb)
  have B0 : Below w.heap.size w ((w.alloc (.cells #[.string la, .string va, .slice pa La ca, .bool ma] 44 (0, 0))).alloc (.cells #[.string lb, .string vb, .slice pb Lb cb, .bool mb] 44 (0, 0))) := ((Below.refl _ _).alloc (Nat.le_refl _) _).alloc (by simp) _
  have X0 : BoxAt ((w.alloc (.cells #[.string la, .string va, .slice pa La ca, .bool ma] 44 (0, 0))).alloc (.cells #[.string lb, .string vb, .slice pb Lb cb, .bool mb] 44 (0, 0))) w.heap.size [.string la, .string va, .slice pa La ca, .bool ma] := (BoxAt.new w _ _).later ((Below.refl _ _).alloc (Nat.le_refl _) _)
  have X1 : BoxAt ((w.alloc (.cells #[.string la, .string va, .slice pa La ca, .bool ma] 44 (0, 0))).alloc (.cells #[.string lb, .string vb, .slice pb Lb cb, .bool mb] 44 (0, 0))) (w.heap.size + 1) [.string lb, .string vb, .slice pb Lb cb, .bool mb] := by
    have := BoxAt.new (w.alloc (.cells #[.string la, .string va, .slice pa La ca, .bool ma] 44 (0, 0))) [.string lb, .string vb, .slice pb Lb cb, .bool mb] 44
    rwa [World.size_alloc] at this
  have HA := hid (StAt.later (l := ta) hxa B0)
  have HB := hid (StAt.later (l := tb) hxb B0)
  have H0 := hid B0
  have HX := hid (And.intro X0 X1)
  have HR := hid hR
  clear hxa hxb B0 X0 X1 hR hLa hLb
  go_enter Tryd.func37, Tryd.ntmps37
  cases h1 : (la.toList == lb.toList)
  case false =>
    have HN := hid (HR.out.symm.trans (cmpS_ne h1 _))
    clear HR HA HB HX HL
    go_wp2_with fail
    go_ret
    exact ⟨ret_bool HN.out.symm, H0.out⟩
  rw [Hid, cmpS_eq h1] at HR
  cases h2 : (va.toList == vb.toList)
  case false =>
    have HN := hid (HR.symm.trans (cmpS_ne h2 _))
    clear HR HA HB HX HL
    go_wp2_with fail
    go_ret
    exact ⟨ret_bool HN.out.symm, H0.out⟩
  rw [cmpS_eq h2] at HR
  generalize hM : cmpI (oneI ma) (oneI mb) = M at HR
  have HM := hid hM
  have HR := hid HR
  clear hM
  go_wp2_with fail
  generalize (World.alloc (World.alloc w _) _) = W1 at *
  have x2 := box_get HX.out.1 (j := 2) rfl
  have x3 := box_get HX.out.1 (j := 3) rfl
  have y2 := box_get HX.out.2 (j := 2) rfl
  have y3 := box_get HX.out.2 (j := 3) rfl
  clear HX
  go_loopg [5] La (fun gf u wx => ∃ i q : Nat, u = .int .i64 (i : Int) ∧ i ≤ La ∧ La ≤ i + gf ∧ i ≤ Lb ∧ Hid ((orI (lexC cmpI (ta.drop i) (tb.drop i)) M == -1) = R) ∧ wx = W1.drewN q)
  case atStart => exact ⟨0, 0, rfl, by omega, by omega, by omega, hid (by rw [List.drop_zero, List.drop_zero]; exact HR.out), rfl⟩
  case round =>
    obtain ⟨i, q, rfl, hi, hg, hib, HI, rfl⟩ := hrel
    clear HR
    by_cases hlt : i < La ∧ i < Lb
    · obtain ⟨hlt, hltb⟩ := hlt
      obtain ⟨x, hx⟩ : ∃ x, ta[i]? = some x := ⟨ta[i]'(by rw [HL.out.1]; exact hlt), List.getElem?_eq_getElem _⟩
      obtain ⟨y, hy⟩ : ∃ y, tb[i]? = some y := ⟨tb[i]'(by rw [HL.out.2]; exact hltb), List.getElem?_eq_getElem _⟩
      obtain ⟨ba, oa, rfl, xa⟩ := HA.out i x hx
      obtain ⟨bb, ob, rfl, xb⟩ := HB.out i y hy
      have hp := lex_at hx hy
      by_cases hxy : x = y
      · subst hxy
        rw [if_pos rfl] at hp
        rw [hp] at HI
        have HI := hid HI
        clear hp hx hy HA HB HL HM
        go_wp2_with fail
        go_quiet (fail)
        go_wp2_with fail
        go_roundg (gk - 1)
        case measure => omega
        case rel => exact ⟨i + 1, _, by go_num, by omega, by omega, by omega, HI, rfl⟩
      · rw [if_neg hxy] at hp
        have hz : cmpI x y ≠ 0 := fun e => hxy ((good_cmpI.zero x y).1 e)
        have HN : Hid (R = decide (x < y)) := hid (by have := HI.out; unfold orI at this; rw [hp, if_neg hz, cmpI_lt] at this; exact this.symm)
        have hne : (x != y) = true := by simp [hxy]
        clear hp hx hy HA HB HL HM HI hxy hz
        go_wp2_with fail
        go_quiet (fail)
        go_wp2_with fail
        go_quiet (fail)
        go_wp2_with fail
        go_ret
        exact ⟨ret_bool HN.out.symm, by first | exact below_drewN H0.out _ | exact below_drewN (below_drewN H0.out _) _ | exact below_drewN (below_drewN (below_drewN H0.out _) _) _⟩
    · have hp := lex_end (a := ta) (b := tb) (i := i) (by rw [HL.out.1]; exact hi) (by rw [HL.out.2]; exact hib) (by rw [HL.out.1, HL.out.2]; exact hlt)
      rw [HL.out.1, HL.out.2] at hp
      have HI := HI.out
      clear HA HB HL
      rcases Nat.lt_trichotomy La Lb with h | h | h
      · rw [if_pos h] at hp
        have HN : Hid (R = true) := hid (by rw [hp] at HI; exact HI.symm)
        clear HI hp
        go_wp2_with fail
        go_ret
        exact ⟨ret_bool HN.out.symm, below_drewN H0.out _⟩
      · subst h
        rw [if_neg (Nat.lt_irrefl _), if_neg (Nat.lt_irrefl _)] at hp
        have HN : Hid (R = (!ma && mb)) := hid (by rw [hp] at HI; unfold orI at HI; rw [if_pos rfl, ← HM.out, bool_lt] at HI; exact HI.symm)
        clear HI HM hp
        cases ma
        all_goals go_wp2_with fail
        all_goals go_ret
        all_goals exact ⟨ret_bool HN.out.symm, below_drewN H0.out _⟩
      · rw [if_neg (by omega), if_pos h] at hp
        have HN : Hid (R = false) := hid (by rw [hp] at HI; exact HI.symm)
        clear HI hp
        go_wp2_with fail
        go_ret
        exact ⟨ret_bool (by rw [HN.out]; exact decide_eq_false (by omega)), below_drewN H0.out _⟩

end Go.Proofs.YtannfhbocfghkaaDoor.EnvC
/- Contracts of cmp.Or, slices.Compare at ints, env.one, env.Cmp, env.Overlap, env.rightLoan. -/
namespace Go.Proofs.YtannfhbocfghkaaDoor.EnvC
open Go Go.RowKit Go.Lib Go.Sort Go.Proofs.YtannfhbocfghkaaDoor.EnvP

theorem or_at {l : List Int} {i : Nat} {x : Int} (h : l[i]? = some x) : (l.drop i).foldr orI 0 = if x = 0 then (l.drop (i + 1)).foldr orI 0 else x := by
  rw [drop_cons h]; rfl
set_option maxHeartbeats 2000000 in
set_option maxRecDepth 100000 in
theorem or_any (l : List Int) (p : Option Addr) (cap : Nat) (w : World) (hl : StAt w p l) (hlen : l.length ≤ 1048576) :
    Calls Tryd.prog 63 #[.slice p l.length cap] w fun r w' => r = .returned (.int .i64 (l.foldr orI 0)) ∧ w = w' := by
  obtain ⟨R, hR⟩ : ∃ R, l.foldr orI 0 = R := ⟨_, rfl⟩
  rw [hR]
  generalize hL : l.length = L at *
  have HL := hid hL
  have HX := hid hl
  have HR := hid hR
  clear hL hl hR
  go_enter Tryd.func63, Tryd.ntmps63
  go_wp2_with fail
  go_loopg [8] L (fun gf u wx => ∃ i : Nat, u = .int .i64 (i : Int) ∧ i ≤ L ∧ L ≤ i + gf ∧ Hid ((l.drop i).foldr orI 0 = R) ∧ wx = w)
  case atStart => exact ⟨0, rfl, by omega, by omega, hid (by rw [List.drop_zero]; exact HR.out), rfl⟩
  case round =>
    obtain ⟨i, rfl, hi, hg, HI, rfl⟩ := hrel
    by_cases hlt : i < L
    · obtain ⟨x, hx⟩ : ∃ x, l[i]? = some x := ⟨l[i]'(by rw [HL.out]; exact hlt), List.getElem?_eq_getElem _⟩
      obtain ⟨b, o, rfl, xa⟩ := HX.out i x hx
      have hp := or_at hx
      have HI := HI.out
      rw [hp] at HI
      by_cases h0 : x = 0
      · subst h0
        rw [if_pos rfl] at HI
        have HI := hid HI
        clear hx hp HX HL HR
        go_wp2_with fail
        go_roundg (gk - 1)
        case measure => omega
        case rel => exact ⟨i + 1, by go_num, by omega, by omega, HI, rfl⟩
      · rw [if_neg h0] at HI
        have HI := hid HI
        have hne : (x != 0) = true := by simp [h0]
        clear hx hp HX HL HR h0
        go_wp2_with fail
        go_ret
        exact ⟨by first | rfl | exact ret_int HI.out, rfl⟩
    · have HI := HI.out
      rw [List.drop_eq_nil_of_le (by rw [HL.out]; omega)] at HI
      have HI := hid HI
      clear HL HX HR
      go_wp2_with fail
      go_ret
      exact ⟨by first | rfl | exact ret_int HI.out, rfl⟩

set_option maxHeartbeats 2000000 in
set_option maxRecDepth 100000 in
theorem compare_any (a b : List Int) (pa pb : Option Addr) (ca cb : Nat) (w : World) (ha : StAt w pa a) (hb : StAt w pb b) (hla : a.length ≤ 1048576) (hlb : b.length ≤ 1048576) :
    Calls Tryd.prog 65 #[.slice pa a.length ca, .slice pb b.length cb] w fun r w' => r = .returned (.int .i64 (lexC cmpI a b)) ∧ w = w' := by
  have c1 := fun (x y : Int) => Tryd.cmp_Compare_int x y w
  obtain ⟨R, hR⟩ : ∃ R, lexC cmpI a b = R := ⟨_, rfl⟩
  rw [hR]
  generalize hLa : a.length = La at *
  generalize hLb : b.length = Lb at *
  have HA := hid ha
  have HB := hid hb
  have HR := hid hR
  have HL := hid (And.intro hLa hLb)
  have C1 := hid c1
  clear ha hb hR hLa hLb c1
  go_enter Tryd.func65, Tryd.ntmps65
  go_wp2_with fail
  go_loopg [11] La (fun gf u wx => ∃ i : Nat, u = .int .i64 (i : Int) ∧ i ≤ La ∧ La ≤ i + gf ∧ i ≤ Lb ∧ Hid (lexC cmpI (a.drop i) (b.drop i) = R) ∧ wx = w)
  case atStart => exact ⟨0, rfl, by omega, by omega, by omega, hid (by rw [List.drop_zero, List.drop_zero]; exact HR.out), rfl⟩
  case round =>
    obtain ⟨i, rfl, hi, hg, hib, HI, rfl⟩ := hrel
    by_cases hlt : i < La
    · obtain ⟨x, hx⟩ : ∃ x, a[i]? = some x := ⟨a[i]'(by rw [HL.out.1]; exact hlt), List.getElem?_eq_getElem _⟩
      obtain ⟨ba, oa, rfl, xa⟩ := HA.out i x hx
      by_cases hltb : i < Lb
      · obtain ⟨y, hy⟩ : ∃ y, b[i]? = some y := ⟨b[i]'(by rw [HL.out.2]; exact hltb), List.getElem?_eq_getElem _⟩
        obtain ⟨bb, ob, rfl, xb⟩ := HB.out i y hy
        have hp := lex_at hx hy
        have HI := HI.out
        rw [hp] at HI
        have C := hid (C1.out x y)
        have hz := good_cmpI.zero x y
        have hnd : (if x = y then lexC cmpI (a.drop (i + 1)) (b.drop (i + 1)) else cmpI x y) = if cmpI x y = 0 then lexC cmpI (a.drop (i + 1)) (b.drop (i + 1)) else cmpI x y := by
          by_cases e : x = y
          · rw [if_pos e, if_pos (hz.2 e)]
          · rw [if_neg e, if_neg (fun k => e (hz.1 k))]
        rw [hnd] at HI
        clear hp hx hy HA HB HR hz hnd C1
        change Hid (Calls _ _ _ _ fun e w' => e = .returned (.int .i64 (cmpI x y)) ∧ _) at C
        generalize cmpI x y = m at *
        have HI := hid HI
        go_wp2_with fail
        with_reducible refine C.out.mono ?_
        rintro e W ⟨rfl, rfl⟩
        clear C
        have HI := HI.out
        by_cases h0 : m = 0
        · subst h0
          rw [if_pos rfl] at HI
          have HI := hid HI
          go_wp2_with fail
          go_roundg (gk - 1)
          case measure => omega
          case rel => exact ⟨i + 1, by go_num, by omega, by omega, by omega, HI, rfl⟩
        · rw [if_neg h0] at HI
          have HI := hid HI
          have hne : (m != 0) = true := by simp [h0]
          clear h0
          go_wp2_with fail
          go_ret
          exact ⟨by first | rfl | exact ret_int HI.out, rfl⟩
      · have HI := HI.out
        rw [lex_end (by rw [HL.out.1]; omega) (by rw [HL.out.2]; omega) (by rw [HL.out.1, HL.out.2]; omega), HL.out.1, HL.out.2, if_neg (by omega), if_pos (by omega)] at HI
        have HI := hid HI
        clear HA HB HR C1 HL hx
        go_wp2_with fail
        go_ret
        exact ⟨by first | rfl | exact ret_int HI.out, rfl⟩
    · have HI := HI.out
      rw [lex_end (by rw [HL.out.1]; omega) (by rw [HL.out.2]; omega) (by rw [HL.out.1, HL.out.2]; omega), HL.out.1, HL.out.2] at HI
      clear HA HB HR C1 HL
      by_cases h : La < Lb
      · rw [if_pos h] at HI
        have HI := hid HI
        go_wp2_with fail
        go_ret
        exact ⟨by first | rfl | exact ret_int HI.out, rfl⟩
      · rw [if_neg h, if_neg (by omega)] at HI
        have HI := hid HI
        go_wp2_with fail
        go_ret
        exact ⟨by first | rfl | exact ret_int HI.out, rfl⟩

theorem one_any (m : Bool) (w : World) : Calls Tryd.prog 67 #[.bool m] w fun r w' => r = .returned (.int .i64 (oneI m)) ∧ w = w' := by
  cases m
  all_goals go_enter Tryd.func67, Tryd.ntmps67
  all_goals go_wp2_with fail
  all_goals go_ret
  all_goals exact ⟨rfl, rfl⟩

theorem st_of {w : World} {v : Value} {l : List Int} (h : Lies w 1 v (l.map stCells)) : ∃ p cap, v = .slice p l.length cap ∧ l.length ≤ cap ∧ StAt w p l := st_at h
set_option maxHeartbeats 4000000 in
set_option maxRecDepth 100000 in
theorem cmp_any (a b : Ln) (w : World) (ha : a.pl.In w) (hb : b.pl.In w) (hla : a.pl.steps.length ≤ 1048576) (hlb : b.pl.steps.length ≤ 1048576) :
    Calls Tryd.prog 47 #[a.val, b.val] w fun r w' => r = .returned (.int .i64 (cmpLn a b)) ∧ Below w.heap.size w w' := by
  obtain ⟨pa, ca, ea, hca, hxa⟩ := st_of ha
  obtain ⟨pb, cb, eb, hcb, hxb⟩ := st_of hb
  clear ha hb
  obtain ⟨R, hR⟩ : ∃ R, cmpLn a b = R := ⟨_, rfl⟩
  rw [hR]
  unfold cmpLn at hR
  obtain ⟨la, ⟨va, sa, ta⟩, ma⟩ := a
  obtain ⟨lb, ⟨vb, sb, tb⟩, mb⟩ := b
  unfold Ln.val Ln.cells
  dsimp only at *
  subst ea eb
  have B0 : Below w.heap.size w ((w.alloc (.cells #[.string la, .string va, .slice pa ta.length ca, .bool ma] 44 (0, 0))).alloc (.cells #[.string lb, .string vb, .slice pb tb.length cb, .bool mb] 44 (0, 0))) := ((Below.refl _ _).alloc (Nat.le_refl _) _).alloc (by simp) _
  have X0 : BoxAt ((w.alloc (.cells #[.string la, .string va, .slice pa ta.length ca, .bool ma] 44 (0, 0))).alloc (.cells #[.string lb, .string vb, .slice pb tb.length cb, .bool mb] 44 (0, 0))) w.heap.size [.string la, .string va, .slice pa ta.length ca, .bool ma] := (BoxAt.new w _ _).later ((Below.refl _ _).alloc (Nat.le_refl _) _)
  have X1 : BoxAt ((w.alloc (.cells #[.string la, .string va, .slice pa ta.length ca, .bool ma] 44 (0, 0))).alloc (.cells #[.string lb, .string vb, .slice pb tb.length cb, .bool mb] 44 (0, 0))) (w.heap.size + 1) [.string lb, .string vb, .slice pb tb.length cb, .bool mb] := by
    have := BoxAt.new (w.alloc (.cells #[.string la, .string va, .slice pa ta.length ca, .bool ma] 44 (0, 0))) [.string lb, .string vb, .slice pb tb.length cb, .bool mb] 44
    rwa [World.size_alloc] at this
  have HA := hid (StAt.later (l := ta) hxa B0)
  have HB := hid (StAt.later (l := tb) hxb B0)
  have H0 := hid B0
  have k0 := hid (box_get X0 (j := 0) rfl)
  have k1 := hid (box_get X0 (j := 1) rfl)
  have k2 := hid (box_get X0 (j := 2) rfl)
  have k3 := hid (box_get X0 (j := 3) rfl)
  have m0 := hid (box_get X1 (j := 0) rfl)
  have m1 := hid (box_get X1 (j := 1) rfl)
  have m2 := hid (box_get X1 (j := 2) rfl)
  have m3 := hid (box_get X1 (j := 3) rfl)
  have c1 := fun (W : World) (h1 : StAt W pa ta) (h2 : StAt W pb tb) => compare_any ta tb pa pb ca cb W h1 h2 hla hlb
  have c2 := fun (W : World) => Tryd.strings_Compare la lb W
  have c3 := fun (W : World) => Tryd.strings_Compare va vb W
  have c4 := fun (W : World) => one_any ma W
  have c5 := fun (W : World) => one_any mb W
  have c6 := fun (W : World) => Tryd.cmp_Compare_int (oneI ma) (oneI mb) W
  change ∀ W, Calls _ _ _ _ fun e w' => e = .returned (.int .i64 (cmpS la lb)) ∧ _ at c2
  change ∀ W, Calls _ _ _ _ fun e w' => e = .returned (.int .i64 (cmpS va vb)) ∧ _ at c3
  change ∀ W, Calls _ _ _ _ fun e w' => e = .returned (.int .i64 (cmpI (oneI ma) (oneI mb))) ∧ _ at c6
  generalize cmpI (oneI ma) (oneI mb) = r4 at *
  generalize lexC cmpI ta tb = r3 at *
  generalize cmpS va vb = r2 at *
  generalize cmpS la lb = r1 at *
  generalize oneI ma = oa at *
  generalize oneI mb = ob at *
  generalize hLa : ta.length = La at *
  generalize hLb : tb.length = Lb at *
  have HR := hid hR
  have C1 := hid c1
  have C2 := hid c2
  have C3 := hid c3
  have C4 := hid c4
  have C5 := hid c5
  have C6 := hid c6
  clear hxa hxb B0 X0 X1 hR hLa hLb c1 c2 c3 c4 c5 c6
  go_enter Tryd.func47, Tryd.ntmps47
  go_wp2_with fail
  generalize (World.alloc (World.alloc w _) _) = W1 at *
  have n0 := k0.out
  have n1 := k1.out
  have n2 := k2.out
  have n3 := k3.out
  have o0 := m0.out
  have o1 := m1.out
  have o2 := m2.out
  have o3 := m3.out
  clear k0 k1 k2 k3 m0 m1 m2 m3
  have HS := hid (And.intro n0 (And.intro n1 (And.intro n2 (And.intro n3 (And.intro o0 (And.intro o1 (And.intro o2 (And.intro o3 (And.intro HA.out HB.out)))))))))
  have hbA : Below W1.heap.size W1 (W1.alloc (.cells #[.int .i64 r1, .int .i64 r2, .int .i64 r3, .int .i64 r4] 3 (0, 0))) := (Below.refl _ _).alloc (Nat.le_refl _) _
  have HSA := hid (And.intro (later hbA n0) (And.intro (later hbA n1) (And.intro (later hbA n2) (And.intro (later hbA n3) (And.intro (later hbA o0) (And.intro (later hbA o1) (And.intro (later hbA o2) (And.intro (later hbA o3) (And.intro (HA.out.later hbA) (HB.out.later hbA))))))))))
  have hst : StAt (W1.alloc (.cells #[.int .i64 r1, .int .i64 r2, .int .i64 r3, .int .i64 r4] 3 (0, 0))).drew (some ⟨W1.heap.size, 0, none⟩) [r1, r2, r3, r4] := fun i x hi => ⟨_, _, rfl, by
    rw [Nat.zero_add]
    refine box_cell W1 [.int .i64 r1, .int .i64 r2, .int .i64 r3, .int .i64 r4] 3 i _ ?_
    match i, hi with
    | 0, hi => cases hi; rfl
    | 1, hi => cases hi; rfl
    | 2, hi => cases hi; rfl
    | 3, hi => cases hi; rfl
    | i + 4, hi => simp at hi⟩
  have OR := hid (or_any [r1, r2, r3, r4] (some ⟨W1.heap.size, 0, none⟩) 4 _ hst (by simp))
  have HBA := hid hbA
  clear hbA hst
  go_region_held3 (fun w' => w'.cell? ⟨w.heap.size, 0, none⟩ = some (.string la) ∧ w'.cell? ⟨w.heap.size, 1, none⟩ = some (.string va) ∧ w'.cell? ⟨w.heap.size, 2, none⟩ = some (.slice pa La ca) ∧ w'.cell? ⟨w.heap.size, 3, none⟩ = some (.bool ma) ∧ w'.cell? ⟨w.heap.size + 1, 0, none⟩ = some (.string lb) ∧ w'.cell? ⟨w.heap.size + 1, 1, none⟩ = some (.string vb) ∧ w'.cell? ⟨w.heap.size + 1, 2, none⟩ = some (.slice pb Lb cb) ∧ w'.cell? ⟨w.heap.size + 1, 3, none⟩ = some (.bool mb) ∧ StAt w' pa ta ∧ StAt w' pb tb)
    (first | exact HS.out | exact HSA.out | go_keep)
    (first | (go_at_call 63; refine (OR.out).mono ?_; rintro e W ⟨rfl, rfl⟩) | (go_at_call 65; refine (C1.out _ (by exact HA.out) (by exact HB.out)).mono ?_; rintro e W ⟨rfl, rfl⟩) | (go_at_call 67; (with_reducible refine (C4.out _).mono ?_); rintro e W ⟨rfl, rfl⟩) | (go_at_call 67; (with_reducible refine (C5.out _).mono ?_); rintro e W ⟨rfl, rfl⟩) | (go_at_call 64; (with_reducible refine (C2.out _).mono ?_); rintro e W ⟨rfl, rfl⟩) | (go_at_call 64; (with_reducible refine (C3.out _).mono ?_); rintro e W ⟨rfl, rfl⟩) | (go_at_call 66; (with_reducible refine (C6.out _).mono ?_); rintro e W ⟨rfl, rfl⟩))
  go_wp2_with fail
  go_ret
  refine ⟨ret_int ?_, H0.out.trans (HBA.out.drew.mono H0.out.size)⟩
  rw [← HR.out]
  show orI r1 (orI r2 (orI r3 (orI r4 0))) = _
  rw [show orI r4 0 = r4 by unfold orI; split <;> omega]

theorem eq_any (a b : List Int) (pa pb : Option Addr) (ca cb : Nat) (w : World) (ha : StAt w pa a) (hb : StAt w pb b) (hla : a.length ≤ 1048576) (hlb : b.length ≤ 1048576) :
    Calls Tryd.prog 33 #[.slice pa (min a.length b.length) ca, .slice pb (min a.length b.length) cb] w fun r w' => r = .returned (.bool (a.isPrefixOf b || b.isPrefixOf a)) ∧ ∃ q, w' = w.drewN q := by
  rw [← take_min]
  by_cases h0 : min a.length b.length = 0
  · rw [h0]
    refine (Tryd.slices_Equal_int_empty pa pb ca 0 cb w (by omega)).mono ?_
    rintro e W ⟨rfl, rfl⟩
    exact ⟨ret_bool (by simp), 0, rfl⟩
  · obtain ⟨x, hx⟩ : ∃ x, a[0]? = some x := ⟨a[0]'(by omega), List.getElem?_eq_getElem _⟩
    obtain ⟨y, hy⟩ : ∃ y, b[0]? = some y := ⟨b[0]'(by omega), List.getElem?_eq_getElem _⟩
    obtain ⟨b1, o1, rfl, _⟩ := ha 0 x hx
    obtain ⟨b2, o2, rfl, _⟩ := hb 0 y hy
    have f : ∀ {l : List Int} {b o : Nat}, StAt w (some ⟨b, o, none⟩) l → ∀ j, j < l.length → w.cell? ⟨b, o + j, none⟩ = some (.int .i64 (l.getD j 0)) := fun {l b o} h j hj => by
      obtain ⟨b', o', e, hc⟩ := h j l[j] (List.getElem?_eq_getElem hj)
      cases e
      rw [hc]; simp [List.getD, List.getElem?_eq_getElem hj]
    exact Tryd.slices_Equal_int b1 o1 _ ca b2 o2 _ cb a b w (by omega) (by omega) (by omega) (by omega) (f ha) (f hb)

set_option maxHeartbeats 4000000 in
set_option maxRecDepth 100000 in
theorem overlap_any (a b : Pl) (w : World) (ha : a.In w) (hb : b.In w) (hla : a.steps.length ≤ 1048576) (hlb : b.steps.length ≤ 1048576) :
    Calls Tryd.prog 17 #[a.val, b.val] w fun r w' => r = .returned (.bool (overlap a b)) ∧ Below w.heap.size w w' := by
  obtain ⟨pa, ca, ea, hca, hxa⟩ := st_of ha
  obtain ⟨pb, cb, eb, hcb, hxb⟩ := st_of hb
  clear ha hb
  obtain ⟨R, hR⟩ : ∃ R, overlap a b = R := ⟨_, rfl⟩
  rw [hR]
  unfold overlap at hR
  obtain ⟨va, sa, la⟩ := a
  obtain ⟨vb, sb, lb⟩ := b
  unfold Pl.val Pl.cells
  dsimp only at *
  subst ea eb
  have B0 : Below w.heap.size w ((w.alloc (.cells #[.string va, .slice pa la.length ca] 42 (0, 0))).alloc (.cells #[.string vb, .slice pb lb.length cb] 42 (0, 0))) := ((Below.refl _ _).alloc (Nat.le_refl _) _).alloc (by simp) _
  have X0 : BoxAt ((w.alloc (.cells #[.string va, .slice pa la.length ca] 42 (0, 0))).alloc (.cells #[.string vb, .slice pb lb.length cb] 42 (0, 0))) w.heap.size [.string va, .slice pa la.length ca] := (BoxAt.new w _ _).later ((Below.refl _ _).alloc (Nat.le_refl _) _)
  have X1 : BoxAt ((w.alloc (.cells #[.string va, .slice pa la.length ca] 42 (0, 0))).alloc (.cells #[.string vb, .slice pb lb.length cb] 42 (0, 0))) (w.heap.size + 1) [.string vb, .slice pb lb.length cb] := by
    have := BoxAt.new (w.alloc (.cells #[.string va, .slice pa la.length ca] 42 (0, 0))) [.string vb, .slice pb lb.length cb] 42
    rwa [World.size_alloc] at this
  have c1 := fun (W : World) (h : Below w.heap.size w W) d os => Calls.regrown_of (((eq_any la lb pa pb ca cb (grow (redrawn W d) os) (hxa.later (h.trans ((below_regrown W d os).mono h.size))) (hxb.later (h.trans ((below_regrown W d os).mono h.size))) hla hlb).mono (R' := fun r w' => r = .returned (.bool (la.isPrefixOf lb || lb.isPrefixOf la)) ∧ Below (grow (redrawn W d) os).heap.size (grow (redrawn W d) os) w') fun e w' he => ⟨he.1, by obtain ⟨_, q, rfl⟩ := he; exact below_drewN (Below.refl _ _) _⟩))
  have hmin : min (la.length : Int) (lb.length : Int) = ((min la.length lb.length : Nat) : Int) := by omega
  generalize hP : (la.isPrefixOf lb || lb.isPrefixOf la) = P at *
  have HV : Hid (R = ((va.toList == vb.toList) && P)) := hid (by rw [← hR, Lib.toList_data, Lib.toList_data])
  have HP := hid hP
  clear hR hP hxa hxb
  generalize hLa : la.length = La at *
  generalize hLb : lb.length = Lb at *
  clear hLa hLb
  have C1 := hid c1
  have H0 := hid B0
  have HX := hid (And.intro X0 X1)
  clear c1 X0 X1 B0
  go_enter Tryd.func17, Tryd.ntmps17
  go_wp2_with fail
  generalize (World.alloc (World.alloc w _) _) = W1 at *
  have D1 := hid (C1.out W1 H0.out)
  have x0 := cell_regrown (box_get HX.out.1 (j := 0) rfl)
  have x1 := cell_regrown (box_get HX.out.1 (j := 1) rfl)
  have y0 := cell_regrown (box_get HX.out.2 (j := 0) rfl)
  have y1 := cell_regrown (box_get HX.out.2 (j := 1) rfl)
  have hm1 : ((min La Lb : Nat) : Int) ≤ (ca : Int) := by omega
  have hm2 : ((min La Lb : Nat) : Int) ≤ (cb : Int) := by omega
  generalize min La Lb = m at *
  have hm0 : (0 : Int) ≤ (m : Int) := by omega
  clear C1 HX HP hmin
  cases hv : (va.toList == vb.toList)
  · have HN : Hid (R = false) := hid (by rw [HV.out, hv]; rfl)
    clear HV
    refine wp_region_quiet_below (by kernel_rfl) (by kernel_rfl) ?_
    repeat (go_big_quiet_step (first | (with_reducible exact D1.out _ _)))
    refine wpQuiet_nil ?_
    intro _ hw'
    obtain ⟨⟨dq, osq⟩, hw''⟩ := hw'
    subst hw''
    go_wp2_with fail
    go_ret
    exact ⟨ret_bool HN.out.symm, H0.out.trans ((below_regrown W1 dq osq).mono H0.out.size)⟩
  · have HN : Hid (R = P) := hid (by rw [HV.out, hv]; rfl)
    clear HV
    refine wp_region_quiet_below (by kernel_rfl) (by kernel_rfl) ?_
    repeat (go_big_quiet_step (first | (with_reducible exact D1.out _ _)))
    refine wpQuiet_nil ?_
    intro _ hw'
    obtain ⟨⟨dq, osq⟩, hw''⟩ := hw'
    subst hw''
    go_wp2_with fail
    go_ret
    exact ⟨ret_bool HN.out.symm, H0.out.trans ((below_regrown W1 dq osq).mono H0.out.size)⟩
end Go.Proofs.YtannfhbocfghkaaDoor.EnvC
