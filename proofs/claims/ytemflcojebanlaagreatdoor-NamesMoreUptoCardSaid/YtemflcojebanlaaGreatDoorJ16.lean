/- Texts joined: NmI, NmF. -/
import Derived.Test.YtemflcojebanlaaGreatDoorJ07
import Derived.Test.YtemflcojebanlaaGreatDoorJ15
/- Rows of names' shelves (lists of types, and whether something is around them). -/
namespace Go.Proofs.YtemflcojebanlaaGreatDoor.NmC
open Go Go.RowKit Go.Lib Go.Sort LexP TreeP LexC TreeC NmP

structure NSh where
 v : Value
 list : List Ty
 ins : Bool
def NSh.cells (s : NSh) : List Value := [s.v, .bool s.ins]
def nsRow (l : List NSh) : List Value := l.flatMap NSh.cells
theorem nsRow_len : ∀ l : List NSh, (nsRow l).length = l.length * 2
 | [] => rfl
 | s :: l => by have := nsRow_len l; unfold nsRow at *; rw [List.flatMap_cons, List.length_append, this, List.length_cons]; show 2 + _ = _; omega
theorem nsRow_snoc (l : List NSh) (s : NSh) : nsRow (l ++ [s]) = nsRow l ++ s.cells := by simp [nsRow]
theorem nsRow_last (l : List NSh) (t : NSh) (j : Nat) (u : Value) (h : t.cells[j]? = some u) : (nsRow (l ++ [t]))[l.length * 2 + j]? = some u := by
 rw [nsRow_snoc, List.getElem?_append_right (by rw [nsRow_len]; omega), nsRow_len, show l.length * 2 + j - l.length * 2 = j by omega]
 exact h
def pairs (l : List NSh) : List (List Ty × Bool) := l.map (fun s => (s.list, s.ins))
theorem pairs_snoc (l : List NSh) (s : NSh) : pairs (l ++ [s]) = pairs l ++ [(s.list, s.ins)] := by simp [pairs]
def wNS : List NSh → Nat
 | [] => 0
 | s :: l => 1 + wTs s.list + wNS l
theorem wNS_app : ∀ l m : List NSh, wNS (l ++ m) = wNS l + wNS m
 | [], m => by simp [wNS]
 | s :: l, m => by rw [List.cons_append, wNS, wNS, wNS_app l m]; omega
theorem wNS_len : ∀ l : List NSh, l.length ≤ wNS l
 | [] => by simp [wNS]
 | s :: l => by have := wNS_len l; rw [wNS, List.length_cons]; omega
/-- how a shelf lies -/
def okN (u : World) (s : NSh) : Prop := Lies u 4 s.v (s.list.map Ty.cells) ∧ Ty.Ins u s.list
theorem ns_info : (Tryz.prog.info? 92).map (fun i => (i.zero, i.size, i.bytes)) = some (some (.agg #[.slice none 0 0, .bool false]), 2, 32) := by kernel_rfl
theorem wTs_drop {l : List Ty} {i : Nat} {t : Ty} (h : l[i]? = some t) : wTs (l.drop i) = wT t + wTs (l.drop (i + 1)) := by rw [drop_cons h, wTs]
theorem everyTs_drop {ok : Nm → Bool → Bool} {b : Bool} {l : List Ty} {i : Nat} {t : Ty} (h : l[i]? = some t) : everyTs ok b (l.drop i) = (everyT ok b t && everyTs ok b (l.drop (i + 1))) := by rw [drop_cons h, everyTs]
/- Contract of lienbookref04's stmts: the scope behind statements, or that a name may not be there. -/

def behindS1 (scope : List ByteArray) (s : St) : List ByteArray := if stK s = 1 then scope ++ [stN s] else scope
def behindA (scope : List ByteArray) : List St → List ByteArray
 | [] => scope
 | s :: ss => behindA (behindS1 scope s) ss
/-- what stmts answers -/
def StPost (w : World) (R : Bool) (L : List ByteArray) (r : Ending) (w' : World) : Prop :=
 ∃ v, r = .returned (.tuple #[v, .bool R]) ∧ Below w.heap.size w w' ∧ (R = true → Names w' v L)

end Go.Proofs.YtemflcojebanlaaGreatDoor.NmC
