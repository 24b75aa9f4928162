/- Texts joined: EnvKit, EnvA, EnvB. -/
import Derived.Test.YtannfhbocfghkaaProg
import Derived.Test.YtannfhbocfghkaaJ00
import Derived.Carry
import Derived.Deep.Draws
import Derived.WalkKit
import Derived.WalkLawsBesides
import Derived.WalkSpells
import Derived.Lib.QuietBelow
import Derived.BigQuiet
import Derived.WalkSmall
/- How loans, types with loans and environments lie in memory; small lemmas of the walks over them. -/
namespace Go.Proofs.Ytannfhbocfghkaa.EnvC
open Go Go.RowKit Go.Lib Go.Sort Go.Proofs.Ytannfhbocfghkaa.EnvP

theorem hid {p : Prop} (h : p) : Hid p := h
theorem below_of_eq {B : Nat} {w w' : World} (h : w = w') : Below B w w' := h ▸ Below.refl _ _
theorem ret_bool {a b : Bool} (h : a = b) : Ending.returned (.bool a) = .returned (.bool b) := by rw [h]
theorem ret_int {k : IntKind} {a b : Int} (h : a = b) : Ending.returned (.int k a) = .returned (.int k b) := by rw [h]
theorem ret_nat {a b : Nat} (h : a = b) : Ending.returned (.int .i64 (a : Int)) = .returned (.int .i64 (b : Int)) := by rw [h]

end Go.Proofs.Ytannfhbocfghkaa.EnvC
namespace Go.Proofs.Ytannfhbocfghkaa.EnvP
open Go Go.RowKit
def Pl.cells (p : Pl) : List Value := [.string p.var, p.sv]
def Pl.val (p : Pl) : Value := .agg p.cells.toArray
def Ln.cells (l : Ln) : List Value := [.string l.life, .string l.pl.var, l.pl.sv, .bool l.mt]
def Ln.val (l : Ln) : Value := .agg l.cells.toArray
def ETy.cells : ETy → List Value | .mk k m g lv _ kv _ => [.int .i64 k, .bool m, .bool g, lv, kv]
def ETy.val (t : ETy) : Value := .agg t.cells.toArray
def Bd.cells (b : Bd) : List Value := [.string b.name] ++ b.ty.cells
def Bd.val (b : Bd) : Value := .agg b.cells.toArray
def stCells (i : Int) : List Value := [.int .i64 i]

/-- a slice that is in memory: its elements, of so many cells each, hold these cells -/
def Lies (w : World) (size : Nat) (v : Value) (xs : List (List Value)) : Prop :=
  ∃ p cap, v = .slice p xs.length cap ∧ xs.length ≤ cap ∧ (xs ≠ [] → ∃ b off, p = some ⟨b, off, none⟩ ∧ ∀ (i : Nat) (c : List Value), xs[i]? = some c → ∀ (j : Nat) (u : Value), c[j]? = some u → w.cell? ⟨b, off + i * size + j, none⟩ = some u)
theorem Lies.keep {w w' : World} {size : Nat} {v : Value} {xs : List (List Value)} (h : Lies w size v xs) (k : ∀ b o u, w.cell? ⟨b, o, none⟩ = some u → w'.cell? ⟨b, o, none⟩ = some u) : Lies w' size v xs := by
  obtain ⟨p, cap, h1, h2, h3⟩ := h
  refine ⟨p, cap, h1, h2, fun hne => ?_⟩
  obtain ⟨b, off, h4, h5⟩ := h3 hne
  exact ⟨b, off, h4, fun i c hi j u hj => k _ _ _ (h5 i c hi j u hj)⟩
/-- what reads in the one world reads in the other one -/
def Keeps (w w' : World) : Prop := ∀ b o u, w.cell? ⟨b, o, none⟩ = some u → w'.cell? ⟨b, o, none⟩ = some u
theorem Keeps.of_below {w w' : World} (h : Below w.heap.size w w') : Keeps w w' := fun b o _ hc => by
  have hlt : b < w.heap.size := World.block_lt_of_cell? w _ hc
  exact (h.cell (p := ⟨b, o, none⟩) hlt).trans hc
theorem Keeps.trans {a b c : World} (h : Keeps a b) (k : Keeps b c) : Keeps a c := fun _ _ _ hc => k _ _ _ (h _ _ _ hc)
theorem Keeps.refl (w : World) : Keeps w w := fun _ _ _ h => h
theorem Keeps.drewN (w : World) (n : Nat) : Keeps w (w.drewN n) := fun _ _ _ h => h
theorem Keeps.alloc (w : World) (o : Obj) : Keeps w (w.alloc o) := Keeps.of_below ((Below.refl _ _).alloc (Nat.le_refl _) _)

def Pl.In (w : World) (p : Pl) : Prop := Lies w 1 p.sv (p.steps.map stCells)
mutual
def ETy.In (w : World) : ETy → Prop
  | .mk _ _ _ lv loans kv kids => Lies w 4 lv (loans.map Ln.cells) ∧ (∀ l ∈ loans, l.pl.In w) ∧ Lies w 5 kv (kids.map ETy.cells) ∧ ETy.Ins w kids
def ETy.Ins (w : World) : List ETy → Prop
  | [] => True
  | t :: ts => t.In w ∧ ETy.Ins w ts
end
theorem ETy.ins_iff (w : World) : ∀ l : List ETy, ETy.Ins w l ↔ ∀ t ∈ l, t.In w
  | [] => by simp [ETy.Ins]
  | t :: ts => by simp [ETy.Ins, ETy.ins_iff w ts]
theorem Pl.In.keep {w w' : World} (k : Keeps w w') {p : Pl} (h : p.In w) : p.In w' := Lies.keep h k
mutual
theorem ETy.In.keep {w w' : World} (k : Keeps w w') : ∀ t : ETy, t.In w → t.In w'
  | .mk _ _ _ _ _ _ kids, h => by
    rw [ETy.In] at h ⊢
    exact ⟨h.1.keep k, fun l hl => (h.2.1 l hl).keep k, h.2.2.1.keep k, ETy.Ins.keep k kids h.2.2.2⟩
theorem ETy.Ins.keep {w w' : World} (k : Keeps w w') : ∀ l : List ETy, ETy.Ins w l → ETy.Ins w' l
  | [], _ => by simp [ETy.Ins]
  | t :: ts, h => by
    rw [ETy.Ins] at h ⊢
    exact ⟨ETy.In.keep k t h.1, ETy.Ins.keep k ts h.2⟩
end
/-- an environment, as it lies in memory -/
def EnvIn (w : World) (v : Value) (e : List Bd) : Prop := Lies w 6 v (e.map Bd.cells) ∧ ∀ b ∈ e, b.ty.In w
theorem EnvIn.keep {w w' : World} (k : Keeps w w') {v : Value} {e : List Bd} (h : EnvIn w v e) : EnvIn w' v e := ⟨h.1.keep k, fun b hb => ETy.In.keep k _ (h.2 b hb)⟩
/-- A slice that lies, opened at an index. -/
theorem Lies.at {w : World} {size : Nat} {v : Value} {xs : List (List Value)} (h : Lies w size v xs) {i : Nat} (hi : i < xs.length) :
    ∃ b off cap, v = .slice (some ⟨b, off, none⟩) xs.length cap ∧ xs.length ≤ cap ∧ ∀ (i : Nat) (c : List Value), xs[i]? = some c → ∀ (j : Nat) (u : Value), c[j]? = some u → w.cell? ⟨b, off + i * size + j, none⟩ = some u := by
  obtain ⟨p, cap, h1, h2, h3⟩ := h
  obtain ⟨b, off, rfl, h5⟩ := h3 (fun e => by rw [e] at hi; simp at hi)
  exact ⟨b, off, cap, h1, h2, h5⟩
end Go.Proofs.Ytannfhbocfghkaa.EnvP
namespace Go.Proofs.Ytannfhbocfghkaa.EnvC
open Go Go.RowKit Go.Lib Go.Sort Go.Proofs.Ytannfhbocfghkaa.EnvP
/-- a cell that was there reads as it did -/
theorem later {w w' : World} (h : Below w.heap.size w w') {b o : Nat} {u : Value} (hc : w.cell? ⟨b, o, none⟩ = some u) : w'.cell? ⟨b, o, none⟩ = some u := Keeps.of_below h b o u hc
theorem box_cell (w : World) (cs : List Value) (T : TypeId) (j : Nat) (u : Value) (h : cs[j]? = some u) : (w.alloc (.cells cs.toArray T (0, 0))).cell? ⟨w.heap.size, j, none⟩ = some u := by
  rw [Lib.cell_of_heap (heap_alloc_new _ _)]
  simpa using h
theorem drop_cons {α : Type} {l : List α} {n : Nat} {c : α} (h : l[n]? = some c) : l.drop n = c :: l.drop (n + 1) := by
  have hlt : n < l.length := (List.getElem?_eq_some_iff.1 h).1
  rw [List.drop_eq_getElem_cons hlt, (List.getElem?_eq_some_iff.1 h).2]
section
variable {P : Program}
/-- a struct is read out of the middle of a row -/
theorem run_loadVar_at (w : World) (b off : Nat) (ty : TypeId) (cs : List Value) (d : TypeDesc) (hc : ∀ (j : Nat) (u : Value), cs[j]? = some u → w.cell? ⟨b, off + j, none⟩ = some u)
    (hu : P.underlying ty = some d) (hd : (match d with | .struct _ | .array _ _ => true | _ => false) = true) (hi : (P.info? ty).map (·.size) = some cs.length) :
    (loadVar ty ⟨b, off, none⟩).run P w = .ok (.agg cs.toArray) w := by
  have hl : (loadCells ⟨b, off, none⟩ cs.length).run P w = .ok cs.toArray w :=
    run_loadCells_list (P := P) w ⟨b, off, none⟩ cs (fun j v hv => by
      have hadd : (⟨b, off, none⟩ : Addr).add j = ⟨b, off + j, none⟩ := by unfold Addr.add; split <;> simp_all
      rw [hadd, hc j v hv])
  cases hq : P.info? ty with
  | none => simp [hq] at hi
  | some i =>
    have hs : i.size = cs.length := by simpa [hq] using hi
    have hagg : (isAgg ty).run P w = .ok true w := by
      unfold isAgg
      rw [Sem.run_bind, run_underlying hu w]
      cases d <;> simp_all
    simp [loadVar, Sem.run_bind, hagg, sizeOf, typeInfo, hq, hs, hl]
theorem wp_load_at {o : Oper} {a : Act} {w : World} {K : Act → World → Prop} {Q : Exit → Act → World → Prop} (ty : TypeId) (x : Operand) (ho : o.op = .load ty x)
    (b off : Nat) (hx : a.eval x = .pointer (some ⟨b, off, none⟩)) (cs : List Value) (d : TypeDesc) (hc : ∀ (j : Nat) (u : Value), cs[j]? = some u → w.cell? ⟨b, off + j, none⟩ = some u)
    (hu : P.underlying ty = some d) (hd : (match d with | .struct _ | .array _ _ => true | _ => false) = true) (hi : (P.info? ty).map (·.size) = some cs.length)
    (h : K (a.put o.dst (.agg cs.toArray)) w) : o.wp P a w K Q := by
  unfold Oper.wp execOp
  simp only [ho, hx, Instr.loadAt, Instr.sureAddr, Sem.run_bind, Sem.run_pure, Result.andThen_ok, run_loadVar_at w b off ty cs d hc hu hd hi]
  exact h
theorem wpList_load_at {ops : Array Oper} {rest : List Oper} {o : Oper} {a : Act} {w : World} {Q : Exit → Act → World → Prop} (hw : Region.wanted o (yielded ops a.tmps) = true) (ty : TypeId) (x : Operand) (ho : o.op = .load ty x)
    (b off : Nat) (hx : a.eval x = .pointer (some ⟨b, off, none⟩)) (cs : List Value) (d : TypeDesc) (hc : ∀ (j : Nat) (u : Value), cs[j]? = some u → w.cell? ⟨b, off + j, none⟩ = some u)
    (hu : P.underlying ty = some d) (hd : (match d with | .struct _ | .array _ _ => true | _ => false) = true) (hi : (P.info? ty).map (·.size) = some cs.length)
    (h : wpList P ops Q rest (a.put o.dst (.agg cs.toArray)) w) : wpList P ops Q (o :: rest) a w := by
  refine wpList_step fun K hK => ?_
  rw [if_pos hw]
  exact wp_load_at ty x ho b off hx cs d hc hu hd hi (hK _ _ h)
end
theorem tySize (t : ETy) : (Try.prog.info? 43).map (·.size) = some t.cells.length := by
  obtain ⟨c1, c2, c3, c4, c5, c6, c7⟩ := t
  exact (show (Try.prog.info? 43).map (·.size) = some 5 by kernel_rfl)
theorem lnSize (l : Ln) : (Try.prog.info? 27).map (·.size) = some l.cells.length := (show (Try.prog.info? 27).map (·.size) = some 4 by kernel_rfl)
theorem plSize (l : Pl) : (Try.prog.info? 25).map (·.size) = some l.cells.length := (show (Try.prog.info? 25).map (·.size) = some 2 by kernel_rfl)
theorem bdSize (b : Bd) : (Try.prog.info? 45).map (·.size) = some b.cells.length := by
  obtain ⟨a, ⟨c1, c2, c3, c4, c5, c6, c7⟩⟩ := b
  exact (show (Try.prog.info? 45).map (·.size) = some 6 by kernel_rfl)

/-- a block holds these cells -/
def BoxAt (w : World) (b : Nat) (cs : List Value) : Prop := ∀ (j : Nat) (u : Value), cs[j]? = some u → w.cell? ⟨b, j, none⟩ = some u
theorem BoxAt.new (w : World) (cs : List Value) (T : TypeId) : BoxAt (w.alloc (.cells cs.toArray T (0, 0))) w.heap.size cs := fun j u h => box_cell w cs T j u h
theorem BoxAt.later {w w' : World} {b : Nat} {cs : List Value} (h : BoxAt w b cs) (hb : Below w.heap.size w w') : BoxAt w' b cs := fun j u hj => EnvC.later hb (h j u hj)
theorem BoxAt.keep {w w' : World} {b : Nat} {cs : List Value} (h : BoxAt w b cs) (k : Keeps w w') : BoxAt w' b cs := fun j u hj => k _ _ _ (h j u hj)
theorem BoxAt.lt {w : World} {b : Nat} {c : Value} {cs : List Value} (h : BoxAt w b (c :: cs)) : b < w.heap.size := World.block_lt_of_cell? w _ (h 0 c rfl)
section
variable {P : Program}
theorem wpQuiet_load_at {ops : Array Oper} {C : World → Prop} {Q : Act → Prop} {rest : List Oper} {o : Oper} {a : Act} (hw : Region.wanted o (yielded ops a.tmps) = true) (ty : TypeId) (x : Operand) (ho : o.op = .load ty x)
    (b off : Nat) (hx : a.eval x = .pointer (some ⟨b, off, none⟩)) (cs : List Value) (d : TypeDesc) (hc : ∀ w, C w → ∀ (j : Nat) (u : Value), cs[j]? = some u → w.cell? ⟨b, off + j, none⟩ = some u)
    (hu : P.underlying ty = some d) (hd : (match d with | .struct _ | .array _ _ => true | _ => false) = true) (hi : (P.info? ty).map (·.size) = some cs.length)
    (h : wpQuiet P ops C Q rest (a.put o.dst (.agg cs.toArray))) : wpQuiet P ops C Q (o :: rest) a := by
  refine wpQuiet_step fun K hK => ?_
  rw [if_pos hw]
  refine ⟨.agg cs.toArray, fun w hCw => ?_, hK _ h⟩
  unfold Oper.quietAt execOp
  simp only [ho, hx, Instr.loadAt, Instr.sureAddr, Sem.run_bind, Sem.run_pure, Result.andThen_ok, run_loadVar_at w b off ty cs d (hc w hCw) hu hd hi]
  exact ⟨rfl, rfl⟩
end
/-- what is read in a world is read in each of the class -/
theorem reg_cells {w : World} {b off : Nat} {cs : List Value} (h : ∀ (j : Nat) (u : Value), cs[j]? = some u → w.cell? ⟨b, off + j, none⟩ = some u) :
    ∀ w', (∃ p : Regrown, w' = grow (redrawn w p.d) p.os) → ∀ (j : Nat) (u : Value), cs[j]? = some u → w'.cell? ⟨b, off + j, none⟩ = some u := by
  rintro w' ⟨p, rfl⟩ j u hj
  exact cell_regrown (h j u hj) _ _
theorem box_get {w : World} {b : Nat} {cs : List Value} (h : BoxAt w b cs) {j : Nat} {u : Value} (hj : cs[j]? = some u) : w.cell? ⟨b, j, none⟩ = some u := h j u hj
theorem rowed_below' (w : World) (Z : Obj) (cs : Array Value) : Below w.heap.size w ((w.alloc Z).setRow w.heap.size cs) := by
  have h := (Below.refl w.heap.size w).alloc (Nat.le_refl _) Z
  refine ⟨h.os, h.tape, h.output, by simp, fun k hk => ?_⟩
  rw [setRow_other _ _ _ _ (by omega)]
  exact h.block k hk
theorem rowed_box' (w : World) (old : Array Value) (T : TypeId) (cs : List Value) : BoxAt ((w.alloc (.cells old T (0, 0))).setRow w.heap.size cs.toArray) w.heap.size cs := fun j u h => by
  rw [cell_setRow_same _ _ _ _ _ _ _ (heap_alloc_new _ _)]
  simp [h]
/-- a function value goes to its function -/
def Enters (g : Nat) : Prop := ∀ (args : Array Value) (w : World), (callFunc g args).run Try.prog w = .ok (.enter g args) w
/-- each is one cell -/
def Ones (cs : List Value) : Prop := cs.toArray.all (·.oneCell') = true

theorem slice_one {w : World} {size : Nat} {v : Value} {xs : List (List Value)} (h : Lies w size v xs) : v.oneCell' = true := by
  obtain ⟨p, cap, rfl, _⟩ := h
  rfl
theorem ln_ones {w : World} {l : Ln} (h : l.pl.In w) : Ones l.cells := by
  have := slice_one h
  unfold Ones Ln.cells
  simp_all [Value.oneCell']
theorem pl_ones {w : World} {p : Pl} (h : p.In w) : Ones p.cells := by
  have := slice_one h
  unfold Ones Pl.cells
  simp_all [Value.oneCell']
theorem ty_ones {w : World} {t : ETy} (h : t.In w) : Ones t.cells := by
  obtain ⟨c1, c2, c3, c4, c5, c6, c7⟩ := t
  rw [ETy.In] at h
  have h1 := slice_one h.1
  have h2 := slice_one h.2.2.1
  unfold Ones ETy.cells
  clear h; simp_all [Value.oneCell']
theorem bd_ones {w : World} {b : Bd} (h : b.ty.In w) : Ones b.cells := by
  obtain ⟨a, ⟨c1, c2, c3, c4, c5, c6, c7⟩⟩ := b
  rw [ETy.In] at h
  have h1 := slice_one h.1
  have h2 := slice_one h.2.2.1
  unfold Ones Bd.cells ETy.cells
  clear h; simp_all [Value.oneCell']
end Go.Proofs.Ytannfhbocfghkaa.EnvC
/- Contracts of the document's begins, Overlap, before, Cmp (lienbookref05). -/
namespace Go.Proofs.Ytannfhbocfghkaa.EnvC
open Go Go.RowKit Go.Lib Go.Sort Go.Proofs.Ytannfhbocfghkaa.EnvP

theorem st_at {w : World} {v : Value} {l : List Int} (h : Lies w 1 v (l.map stCells)) : ∃ p cap, v = .slice p l.length cap ∧ l.length ≤ cap ∧ ∀ i x, l[i]? = some x → ∃ b off, p = some ⟨b, off, none⟩ ∧ w.cell? ⟨b, off + i, none⟩ = some (.int .i64 x) := by
  obtain ⟨p, cap, rfl, hc, hx⟩ := h
  rw [List.length_map] at *
  refine ⟨p, cap, rfl, hc, fun i x hi => ?_⟩
  obtain ⟨b, off, e, hx⟩ := hx (fun e => by rw [List.map_eq_nil_iff] at e; rw [e] at hi; simp at hi)
  have := hx i (stCells x) (by rw [List.getElem?_map, hi]; rfl) 0 _ rfl
  exact ⟨b, off, e, by simpa using this⟩
theorem pre_at {a b : List Int} {i : Nat} {x : Int} (hx : a[i]? = some x) : (a.drop i).isPrefixOf (b.drop i) = match b[i]? with | none => false | some y => x == y && (a.drop (i + 1)).isPrefixOf (b.drop (i + 1)) := by
  rw [drop_cons hx]
  cases hb : b[i]? with
  | none => rw [show b.drop i = [] from List.drop_eq_nil_of_le (by simpa using hb)]; rfl
  | some y => rw [drop_cons hb]; rfl
theorem pre_end {a b : List Int} {i : Nat} (h : a.length ≤ i) : (a.drop i).isPrefixOf (b.drop i) = true := by
  rw [List.drop_eq_nil_of_le h]; cases b.drop i <;> rfl

set_option maxHeartbeats 2000000 in
set_option maxRecDepth 100000 in
theorem begins_any (a b : List Int) (va vb : Value) (w : World) (ha : Lies w 1 va (a.map stCells)) (hb : Lies w 1 vb (b.map stCells)) (hla : a.length ≤ 1048576) (hlb : b.length ≤ 1048576) :
    Calls Try.prog 19 #[va, vb] w fun r w' => r = .returned (.bool (a.isPrefixOf b)) ∧ Below w.heap.size w w' := by
  obtain ⟨pa, ca, rfl, hca, hxa⟩ := st_at ha
  obtain ⟨pb, cb, rfl, hcb, hxb⟩ := st_at hb
  clear ha hb
  obtain ⟨R, hR⟩ : ∃ R, a.isPrefixOf b = R := ⟨_, rfl⟩
  rw [hR]
  generalize hLa : a.length = La at *
  generalize hLb : b.length = Lb at *
  have HA := hid hxa
  have HB := hid hxb
  have HR := hid hR
  have HL := hid (And.intro hLa hLb)
  clear hxa hxb hR hLa hLb
  go_enter Try.func19, Try.ntmps19
  go_wp2_with fail
  go_loopg [5] La (fun gf u wx => ∃ i q : Nat, u = .int .i64 (i : Int) ∧ i ≤ La ∧ La ≤ i + gf ∧ i ≤ Lb ∧ Hid (R = (a.drop i).isPrefixOf (b.drop i)) ∧ wx = w.drewN q)
  case atStart => exact ⟨0, 0, rfl, by omega, by omega, by omega, hid (by rw [List.drop_zero, List.drop_zero]; exact HR.out.symm), rfl⟩
  case round =>
    obtain ⟨i, q, rfl, hi, hg, hib, HI, rfl⟩ := hrel
    by_cases hlt : i < La
    · obtain ⟨x, hx⟩ : ∃ x, a[i]? = some x := ⟨a[i]'(by rw [HL.out.1]; exact hlt), List.getElem?_eq_getElem _⟩
      obtain ⟨ba, oa, rfl, xa⟩ := HA.out i x hx
      have hp := pre_at (b := b) hx
      by_cases hlb' : i < Lb
      · obtain ⟨y, hy⟩ : ∃ y, b[i]? = some y := ⟨b[i]'(by rw [HL.out.2]; exact hlb'), List.getElem?_eq_getElem _⟩
        obtain ⟨bb, ob, rfl, xb⟩ := HB.out i y hy
        rw [hy] at hp
        have hd : decide ((Lb : Int) ≤ (i : Int)) = false := by simp; omega
        by_cases hxy : x = y
        · subst hxy
          have HN : Hid (R = (a.drop (i + 1)).isPrefixOf (b.drop (i + 1))) := hid (by rw [HI.out, hp]; simp)
          clear hp hx hy HA HB HR HL HI
          go_wp2_with fail
          go_quiet (fail)
          go_wp2_with fail
          go_roundg (gk - 1)
          case measure => omega
          case rel => exact ⟨i + 1, _, by go_num, by omega, by omega, by omega, HN, rfl⟩
        · have HN : Hid (R = false) := hid (by rw [HI.out, hp]; simp [hxy])
          have hne : (x != y) = true := by simp [hxy]
          clear hp hx hy HA HB HR HL HI hxy
          go_wp2_with fail
          go_quiet (fail)
          go_wp2_with fail
          go_ret
          exact ⟨ret_bool HN.out.symm, by first | exact below_drewN (Below.refl _ _) _ | exact below_drewN (below_drewN (Below.refl _ _) _) _⟩
      · have hy : b[i]? = none := by rw [List.getElem?_eq_none_iff, HL.out.2]; omega
        rw [hy] at hp
        have HN : Hid (R = false) := hid (by rw [HI.out, hp])
        have hd : decide ((Lb : Int) ≤ (i : Int)) = true := by simp; omega
        clear hp hx hy HA HB HR HL HI
        go_wp2_with fail
        go_quiet (fail)
        go_wp2_with fail
        go_ret
        exact ⟨ret_bool HN.out.symm, by first | exact below_drewN (Below.refl _ _) _ | exact below_drewN (below_drewN (Below.refl _ _) _) _⟩
    · have HN : Hid (R = true) := hid (by rw [HI.out]; exact pre_end (by rw [HL.out.1]; omega))
      clear HA HB HR HL HI
      go_wp2_with fail
      go_ret
      exact ⟨ret_bool HN.out.symm, by first | exact below_drewN (Below.refl _ _) _ | exact below_drewN (below_drewN (Below.refl _ _) _) _⟩

set_option maxHeartbeats 2000000 in
set_option maxRecDepth 100000 in
theorem rOverlap_any (a b : Pl) (w : World) (ha : a.In w) (hb : b.In w) (hla : a.steps.length ≤ 1048576) (hlb : b.steps.length ≤ 1048576) :
    Calls Try.prog 8 #[a.val, b.val] w fun r w' => r = .returned (.bool (overlap a b)) ∧ Below w.heap.size w w' := by
  have c1 := fun (W : World) (h : Below w.heap.size w W) => begins_any a.steps b.steps a.sv b.sv W (Lies.keep ha (Keeps.of_below h)) (Lies.keep hb (Keeps.of_below h)) hla hlb
  have c2 := fun (W : World) (h : Below w.heap.size w W) => begins_any b.steps a.steps b.sv a.sv W (Lies.keep hb (Keeps.of_below h)) (Lies.keep ha (Keeps.of_below h)) hlb hla
  have s1 := slice_one ha
  have s2 := slice_one hb
  obtain ⟨R, hR⟩ : ∃ R, overlap a b = R := ⟨_, rfl⟩
  rw [hR]
  unfold overlap at hR
  obtain ⟨va, sa, la⟩ := a
  obtain ⟨vb, sb, lb⟩ := b
  unfold Pl.val Pl.cells
  dsimp only at c1 c2 s1 s2 hR ⊢
  have B0 : Below w.heap.size w ((w.alloc (.cells #[.string va, sa] 25 (0, 0))).alloc (.cells #[.string vb, sb] 25 (0, 0))) := ((Below.refl _ _).alloc (Nat.le_refl _) _).alloc (by simp) _
  have C1 := hid (c1 _ B0)
  generalize hP : la.isPrefixOf lb = P at *
  generalize hQ : lb.isPrefixOf la = Q at *
  have k1 : ((w.alloc (.cells #[.string va, sa] 25 (0, 0))).alloc (.cells #[.string vb, sb] 25 (0, 0))).cell? ⟨w.heap.size, 1, none⟩ = some sa := later ((Below.refl _ _).alloc (Nat.le_refl _) _) (box_cell w [.string va, sa] 25 1 sa rfl)
  have k2 : ((w.alloc (.cells #[.string va, sa] 25 (0, 0))).alloc (.cells #[.string vb, sb] 25 (0, 0))).cell? ⟨w.heap.size + 1, 1, none⟩ = some sb := by
    have := box_cell (w.alloc (.cells #[.string va, sa] 25 (0, 0))) [.string vb, sb] 25 1 sb rfl
    rwa [World.size_alloc] at this
  have K := hid (And.intro k1 k2)
  have C2 := hid c2
  have H0 := hid B0
  have HV : Hid (R = ((va.toList == vb.toList) && (P || Q))) := hid (by rw [← hR, Lib.toList_data, Lib.toList_data])
  clear c1 c2 hP hQ B0 hR k1 k2
  cases hv : (va.toList == vb.toList)
  · have HN : Hid (R = false) := hid (by rw [HV.out, hv]; rfl)
    clear HV
    go_enter Try.func8, Try.ntmps8
    go_wp2_with fail
    go_ret
    exact ⟨ret_bool HN.out.symm, H0.out⟩
  · have HN : Hid (R = (P || Q)) := hid (by rw [HV.out, hv]; rfl)
    clear HV
    go_enter Try.func8, Try.ntmps8
    go_wp2_with fail
    with_reducible refine C1.out.mono ?_
    rintro e W ⟨rfl, hb1⟩
    have q1 := later hb1 K.out.1
    have q2 := later hb1 K.out.2
    have C3 := hid (C2.out W (H0.out.trans (hb1.mono H0.out.size)))
    have H1 := hid (H0.out.trans (hb1.mono H0.out.size))
    clear C1 C2 H0 K hb1
    cases P
    · go_wp2_with fail
      with_reducible refine C3.out.mono ?_
      rintro e W2 ⟨rfl, hb2⟩
      go_wp2_with fail
      go_ret
      exact ⟨ret_bool (by rw [HN.out]; rfl), H1.out.trans (hb2.mono H1.out.size)⟩
    · go_wp2_with fail
      go_ret
      exact ⟨ret_bool HN.out.symm, H1.out⟩
end Go.Proofs.Ytannfhbocfghkaa.EnvC
/- Contracts of the document's before and Cmp (lienbookref05). -/
namespace Go.Proofs.Ytannfhbocfghkaa.EnvC
open Go Go.RowKit Go.Lib Go.Sort Go.Proofs.Ytannfhbocfghkaa.EnvP

def StAt (w : World) (p : Option Addr) (l : List Int) : Prop := ∀ i x, l[i]? = some x → ∃ b off, p = some ⟨b, off, none⟩ ∧ w.cell? ⟨b, off + i, none⟩ = some (.int .i64 x)
theorem StAt.later {w w' : World} {p : Option Addr} {l : List Int} (h : StAt w p l) (hb : Below w.heap.size w w') : StAt w' p l := fun i x hi => by
  obtain ⟨b, o, e1, e2⟩ := h i x hi
  exact ⟨b, o, e1, EnvC.later hb e2⟩
theorem lex_at {a b : List Int} {i : Nat} {x y : Int} (hx : a[i]? = some x) (hy : b[i]? = some y) : lexC cmpI (a.drop i) (b.drop i) = if x = y then lexC cmpI (a.drop (i + 1)) (b.drop (i + 1)) else cmpI x y := by
  rw [drop_cons hx, drop_cons hy]
  simp only [lexC]
  by_cases h : x = y
  · rw [if_pos ((good_cmpI.zero x y).2 h), if_pos h]
  · rw [if_neg (fun e => h ((good_cmpI.zero x y).1 e)), if_neg h]
theorem lex_end {a b : List Int} {i : Nat} (ha : i ≤ a.length) (hb : i ≤ b.length) (h : ¬ (i < a.length ∧ i < b.length)) : lexC cmpI (a.drop i) (b.drop i) = if a.length < b.length then -1 else if b.length < a.length then 1 else 0 := by
  by_cases h1 : i < a.length
  · have e : b.drop i = [] := List.drop_eq_nil_of_le (by omega)
    obtain ⟨x, hx⟩ : ∃ x, a[i]? = some x := ⟨a[i], List.getElem?_eq_getElem h1⟩
    rw [e, drop_cons hx, if_neg (by omega), if_pos (by omega)]; rfl
  · have e : a.drop i = [] := List.drop_eq_nil_of_le (by omega)
    rw [e]
    by_cases h2 : i < b.length
    · obtain ⟨y, hy⟩ : ∃ y, b[i]? = some y := ⟨b[i], List.getElem?_eq_getElem h2⟩
      rw [drop_cons hy, if_pos (by omega)]; rfl
    · rw [List.drop_eq_nil_of_le (by omega), if_neg (by omega), if_neg (by omega)]; rfl
theorem cmpI_lt (x y : Int) : (cmpI x y == -1) = decide (x < y) := by
  unfold cmpI Lib.compareInt
  by_cases h : x < y
  · simp [h]
  · by_cases h2 : x > y <;> simp [h, h2]
theorem cmpS_ne {a b : ByteArray} (h : (a.toList == b.toList) = false) : ∀ M, (orI (cmpS a b) M == -1) = Op.bytesLess a.toList b.toList := by
  intro M
  have hz : cmpS a b ≠ 0 := fun e => by
    rw [good_cmpS.zero] at e
    rw [Lib.toList_data, Lib.toList_data] at h
    simp [e] at h
  unfold orI
  rw [if_neg hz, less_eq, Lib.toList_data, Lib.toList_data]
  unfold cmpS
  rw [cmpS_lex]
theorem cmpS_eq {a b : ByteArray} (h : (a.toList == b.toList) = true) : ∀ M, orI (cmpS a b) M = M := by
  intro M
  have hz : cmpS a b = 0 := by
    rw [good_cmpS.zero]
    rw [Lib.toList_data, Lib.toList_data] at h
    simpa using h
  unfold orI
  rw [if_pos hz]
theorem bool_lt (m n : Bool) : (cmpI (oneI m) (oneI n) == -1) = (!m && n) := by cases m <;> cases n <;> rfl

set_option maxHeartbeats 4000000 in
set_option maxRecDepth 100000 in
theorem rBefore_any (a b : Ln) (w : World) (ha : a.pl.In w) (hb : b.pl.In w) (hla : a.pl.steps.length ≤ 1048576) (hlb : b.pl.steps.length ≤ 1048576) :
    Calls Try.prog 25 #[a.val, b.val] w fun r w' => r = .returned (.bool (before a b)) ∧ Below w.heap.size w w' := by
  obtain ⟨pa, ca, ea, hca, hxa⟩ := st_at ha
  obtain ⟨pb, cb, eb, hcb, hxb⟩ := st_at hb
  clear ha hb
  obtain ⟨R, hR⟩ : ∃ R, before a b = R := ⟨_, rfl⟩
  rw [hR]
  unfold before cmpLn at hR
  obtain ⟨la, ⟨va, sa, ta⟩, ma⟩ := a
  obtain ⟨lb, ⟨vb, sb, tb⟩, mb⟩ := b
  unfold Ln.val Ln.cells
  dsimp only at *
  subst ea eb
  generalize hLa : ta.length = La at *
  generalize hLb : tb.length = Lb at *
  have HL := hid (And.intro hLa hLb)
  have B0 : Below w.heap.size w ((w.alloc (.cells #[.string la, .string va, .slice pa La ca, .bool ma] 27 (0, 0))).alloc (.cells #[.string lb, .string vb, .slice pb Lb cb, .bool mb] 27 (0, 0))) := ((Below.refl _ _).alloc (Nat.le_refl _) _).alloc (by simp) _
  have X0 : BoxAt ((w.alloc (.cells #[.string la, .string va, .slice pa La ca, .bool ma] 27 (0, 0))).alloc (.cells #[.string lb, .string vb, .slice pb Lb cb, .bool mb] 27 (0, 0))) w.heap.size [.string la, .string va, .slice pa La ca, .bool ma] := (BoxAt.new w _ _).later ((Below.refl _ _).alloc (Nat.le_refl _) _)
  have X1 : BoxAt ((w.alloc (.cells #[.string la, .string va, .slice pa La ca, .bool ma] 27 (0, 0))).alloc (.cells #[.string lb, .string vb, .slice pb Lb cb, .bool mb] 27 (0, 0))) (w.heap.size + 1) [.string lb, .string vb, .slice pb Lb cb, .bool mb] := by
    have := BoxAt.new (w.alloc (.cells #[.string la, .string va, .slice pa La ca, .bool ma] 27 (0, 0))) [.string lb, .string vb, .slice pb Lb cb, .bool mb] 27
    rwa [World.size_alloc] at this
  have HA := hid (StAt.later (l := ta) hxa B0)
  have HB := hid (StAt.later (l := tb) hxb B0)
  have H0 := hid B0
  have HX := hid (And.intro X0 X1)
  have HR := hid hR
  clear hxa hxb B0 X0 X1 hR hLa hLb
  go_enter Try.func25, Try.ntmps25
  cases h1 : (la.toList == lb.toList)
  case false =>
    have HN := hid (HR.out.symm.trans (cmpS_ne h1 _))
    clear HR HA HB HX HL
    go_wp2_with fail
    go_ret
    exact ⟨ret_bool HN.out.symm, H0.out⟩
  rw [Hid, cmpS_eq h1] at HR
  cases h2 : (va.toList == vb.toList)
  case false =>
    have HN := hid (HR.symm.trans (cmpS_ne h2 _))
    clear HR HA HB HX HL
    go_wp2_with fail
    go_ret
    exact ⟨ret_bool HN.out.symm, H0.out⟩
  rw [cmpS_eq h2] at HR
  generalize hM : cmpI (oneI ma) (oneI mb) = M at HR
  have HM := hid hM
  have HR := hid HR
  clear hM
  go_wp2_with fail
  generalize (World.alloc (World.alloc w _) _) = W1 at *
  have x2 := box_get HX.out.1 (j := 2) rfl
  have x3 := box_get HX.out.1 (j := 3) rfl
  have y2 := box_get HX.out.2 (j := 2) rfl
  have y3 := box_get HX.out.2 (j := 3) rfl
  clear HX
  go_loopg [5] La (fun gf u wx => ∃ i q : Nat, u = .int .i64 (i : Int) ∧ i ≤ La ∧ La ≤ i + gf ∧ i ≤ Lb ∧ Hid ((orI (lexC cmpI (ta.drop i) (tb.drop i)) M == -1) = R) ∧ wx = W1.drewN q)
  case atStart => exact ⟨0, 0, rfl, by omega, by omega, by omega, hid (by rw [List.drop_zero, List.drop_zero]; exact HR.out), rfl⟩
  case round =>
    obtain ⟨i, q, rfl, hi, hg, hib, HI, rfl⟩ := hrel
    clear HR
    by_cases hlt : i < La ∧ i < Lb
    · obtain ⟨hlt, hltb⟩ := hlt
      obtain ⟨x, hx⟩ : ∃ x, ta[i]? = some x := ⟨ta[i]'(by rw [HL.out.1]; exact hlt), List.getElem?_eq_getElem _⟩
      obtain ⟨y, hy⟩ : ∃ y, tb[i]? = some y := ⟨tb[i]'(by rw [HL.out.2]; exact hltb), List.getElem?_eq_getElem _⟩
      obtain ⟨ba, oa, rfl, xa⟩ := HA.out i x hx
      obtain ⟨bb, ob, rfl, xb⟩ := HB.out i y hy
      have hp := lex_at hx hy
      by_cases hxy : x = y
      · subst hxy
        rw [if_pos rfl] at hp
        rw [hp] at HI
        have HI := hid HI
        clear hp hx hy HA HB HL HM
        go_wp2_with fail
        go_quiet (fail)
        go_wp2_with fail
        go_roundg (gk - 1)
        case measure => omega
        case rel => exact ⟨i + 1, _, by go_num, by omega, by omega, by omega, HI, rfl⟩
      · rw [if_neg hxy] at hp
        have hz : cmpI x y ≠ 0 := fun e => hxy ((good_cmpI.zero x y).1 e)
        have HN : Hid (R = decide (x < y)) := hid (by have := HI.out; unfold orI at this; rw [hp, if_neg hz, cmpI_lt] at this; exact this.symm)
        have hne : (x != y) = true := by simp [hxy]
        clear hp hx hy HA HB HL HM HI hxy hz
        go_wp2_with fail
        go_quiet (fail)
        go_wp2_with fail
        go_quiet (fail)
        go_wp2_with fail
        go_ret
        exact ⟨ret_bool HN.out.symm, by first | exact below_drewN H0.out _ | exact below_drewN (below_drewN H0.out _) _ | exact below_drewN (below_drewN (below_drewN H0.out _) _) _⟩
    · have hp := lex_end (a := ta) (b := tb) (i := i) (by rw [HL.out.1]; exact hi) (by rw [HL.out.2]; exact hib) (by rw [HL.out.1, HL.out.2]; exact hlt)
      rw [HL.out.1, HL.out.2] at hp
      have HI := HI.out
      clear HA HB HL
      rcases Nat.lt_trichotomy La Lb with h | h | h
      · rw [if_pos h] at hp
        have HN : Hid (R = true) := hid (by rw [hp] at HI; exact HI.symm)
        clear HI hp
        go_wp2_with fail
        go_ret
        exact ⟨ret_bool HN.out.symm, below_drewN H0.out _⟩
      · subst h
        rw [if_neg (Nat.lt_irrefl _), if_neg (Nat.lt_irrefl _)] at hp
        have HN : Hid (R = (!ma && mb)) := hid (by rw [hp] at HI; unfold orI at HI; rw [if_pos rfl, ← HM.out, bool_lt] at HI; exact HI.symm)
        clear HI HM hp
        cases ma
        all_goals go_wp2_with fail
        all_goals go_ret
        all_goals exact ⟨ret_bool HN.out.symm, below_drewN H0.out _⟩
      · rw [if_neg (by omega), if_pos h] at hp
        have HN : Hid (R = false) := hid (by rw [hp] at HI; exact HI.symm)
        clear HI hp
        go_wp2_with fail
        go_ret
        exact ⟨ret_bool (by rw [HN.out]; exact decide_eq_false (by omega)), below_drewN H0.out _⟩

set_option maxHeartbeats 2000000 in
set_option maxRecDepth 100000 in
theorem rCmp_any (a b : Ln) (w : World) (ha : a.pl.In w) (hb : b.pl.In w) (hla : a.pl.steps.length ≤ 1048576) (hlb : b.pl.steps.length ≤ 1048576) :
    Calls Try.prog 10 #[a.val, b.val] w fun r w' => r = .returned (.int .i64 (cmpLn a b)) ∧ Below w.heap.size w w' := by
  have c1 := fun (W : World) (h : Below w.heap.size w W) => rBefore_any a b W (ha.keep (Keeps.of_below h)) (hb.keep (Keeps.of_below h)) hla hlb
  have c2 := fun (W : World) (h : Below w.heap.size w W) => rBefore_any b a W (hb.keep (Keeps.of_below h)) (ha.keep (Keeps.of_below h)) hlb hla
  have hR := cmp_before a b
  have oa := slice_one ha
  have ob := slice_one hb
  generalize before a b = P at *
  generalize before b a = Q at *
  generalize cmpLn a b = R at *
  clear ha hb hla hlb
  obtain ⟨la, ⟨va, sa, ta⟩, ma⟩ := a
  obtain ⟨lb, ⟨vb, sb, tb⟩, mb⟩ := b
  unfold Ln.val Ln.cells at *
  dsimp only at *
  have B0 : Below w.heap.size w ((w.alloc (.cells #[.string la, .string va, sa, .bool ma] 27 (0, 0))).alloc (.cells #[.string lb, .string vb, sb, .bool mb] 27 (0, 0))) := ((Below.refl _ _).alloc (Nat.le_refl _) _).alloc (by simp) _
  have X0 : BoxAt ((w.alloc (.cells #[.string la, .string va, sa, .bool ma] 27 (0, 0))).alloc (.cells #[.string lb, .string vb, sb, .bool mb] 27 (0, 0))) w.heap.size [.string la, .string va, sa, .bool ma] := (BoxAt.new w _ _).later ((Below.refl _ _).alloc (Nat.le_refl _) _)
  have X1 : BoxAt ((w.alloc (.cells #[.string la, .string va, sa, .bool ma] 27 (0, 0))).alloc (.cells #[.string lb, .string vb, sb, .bool mb] 27 (0, 0))) (w.heap.size + 1) [.string lb, .string vb, sb, .bool mb] := by
    have := BoxAt.new (w.alloc (.cells #[.string la, .string va, sa, .bool ma] 27 (0, 0))) [.string lb, .string vb, sb, .bool mb] 27
    rwa [World.size_alloc] at this
  have C1 := hid (c1 _ B0)
  have C2 := hid c2
  have HX := hid (And.intro X0 X1)
  have H0 := hid B0
  have HR := hid hR
  clear c1 c2 hR
  have x2 := box_get X0 (j := 2) rfl
  have y2 := box_get X1 (j := 2) rfl
  clear X0 X1 B0
  go_enter Try.func10, Try.ntmps10
  go_wp2_with fail
  with_reducible refine C1.out.mono ?_
  rintro e W ⟨rfl, hb1⟩
  have D2 := hid (C2.out W (H0.out.trans (hb1.mono H0.out.size)))
  have H1 := hid (H0.out.trans (hb1.mono H0.out.size))
  have X0 := HX.out.1.later hb1
  have X1 := HX.out.2.later hb1
  have x0 := box_get X0 (j := 0) rfl
  have x1 := box_get X0 (j := 1) rfl
  have x2 := box_get X0 (j := 2) rfl
  have x3 := box_get X0 (j := 3) rfl
  have y0 := box_get X1 (j := 0) rfl
  have y1 := box_get X1 (j := 1) rfl
  have y2 := box_get X1 (j := 2) rfl
  have y3 := box_get X1 (j := 3) rfl
  clear C1 C2 HX H0 hb1 X0 X1
  cases P
  · go_wp2_with fail
    with_reducible refine D2.out.mono ?_
    rintro e W2 ⟨rfl, hb2⟩
    clear x0 x1 x2 x3 y0 y1 y2 y3
    cases Q
    all_goals go_wp2_with fail
    all_goals go_ret
    all_goals exact ⟨ret_int HR.out.symm, H1.out.trans (hb2.mono H1.out.size)⟩
  · go_wp2_with fail
    go_ret
    exact ⟨ret_int HR.out.symm, H1.out⟩
end Go.Proofs.Ytannfhbocfghkaa.EnvC
