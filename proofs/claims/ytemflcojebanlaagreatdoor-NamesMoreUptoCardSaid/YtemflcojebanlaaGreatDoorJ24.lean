/- Texts joined: ParPure, NmX, NmV, PageA, PageB, PageC, PageD, TextA. -/
import Derived.Test.YtemflcojebanlaaGreatDoorJ00
import Derived.Test.YtemflcojebanlaaGreatDoorJ03
import Derived.Test.YtemflcojebanlaaGreatDoorJ09
import Derived.Lib.AppendStr
import Derived.Lib.Builder
import Derived.Lib.FrozenHead2
import Derived.Lib.OthersKept
import Derived.Test.YtemflcojebanlaaGreatDoorJ12
import Derived.Test.YtemflcojebanlaaGreatDoorJ22
import Derived.Test.YtemflcojebanlaaGreatDoorJ14
import Derived.IntWalk
/- Layer 3: trees without memory, and the document's own parser in plain words: what tokens are left, and whether something is wrong at the next one. No program is imported. -/
namespace Go.Proofs.YtemflcojebanlaaGreatDoor.ParP
open Go Go.RowKit LexP TreeP

inductive PT where
 | mk (kind : Int) (life : List UInt8) (mt : Bool) (kids : List PT)
inductive PE where
 | mk (kind num : Int) (name : List UInt8) (mt : Bool) (kids : List PE)
inductive PS where
 | mk (kind : Int) (name : List UInt8) (place expr : PE) (thn els : List PS)
structure PP where
 name : List UInt8
 type : PT
structure PF where
 name : List UInt8
 lives : List (List UInt8)
 pars : List PP
 gives : PT
 outs : List (List UInt8)
 body : List PS
 value : PE

/-! ### A tree without its memory -/
mutual
def erT : Ty → PT | .mk k l m _ kids => .mk k (bs l) m (erTs kids)
def erTs : List Ty → List PT | [] => [] | t :: ts => erT t :: erTs ts
end
mutual
def erE : Ex → PE | .mk k n s m _ kids => .mk k n (bs s) m (erEs kids)
def erEs : List Ex → List PE | [] => [] | t :: ts => erE t :: erEs ts
end
mutual
def erS : St → PS | .mk k n p e _ th _ el => .mk k (bs n) (erE p) (erE e) (erSs th) (erSs el)
def erSs : List St → List PS | [] => [] | t :: ts => erS t :: erSs ts
end
def erPa (p : Pa) : PP := ⟨bs p.name, erT p.type⟩
def erF (f : TreeP.Fn) : PF := ⟨bs f.name, f.lives.map bs, f.pars.map erPa, erT f.gives, f.outs.map bs, erSs f.body, erE f.value⟩
theorem erTs_map : ∀ l : List Ty, erTs l = l.map erT
 | [] => rfl
 | t :: ts => by rw [erTs, erTs_map ts, List.map_cons]
theorem erEs_map : ∀ l : List Ex, erEs l = l.map erE
 | [] => rfl
 | t :: ts => by rw [erEs, erEs_map ts, List.map_cons]
theorem erSs_map : ∀ l : List St, erSs l = l.map erS
 | [] => rfl
 | t :: ts => by rw [erSs, erSs_map ts, List.map_cons]

/-! ### The reader -/
/-- what tokens are left, and whether something is wrong -/
structure S where
 rest : List Tok
 wr : Bool
def txt (k : Nat) (s : S) : List UInt8 := match s.rest with
 | t :: _ => if t.kind = k then t.text else []
 | [] => []
def S.pass (s : S) : S := ⟨s.rest.tail, s.wr⟩
def S.bad (s : S) : S := ⟨s.rest, true⟩
def nextB (s : S) (x : List UInt8) : Bool := !s.wr && (txt 4 s == x || txt 1 s == x)
def skipS (x : List UInt8) (s : S) : S := if nextB s x then s.pass else s
def mustS (x : List UInt8) (s : S) : S := if nextB s x then s.pass else s.bad
def nameOk (s : S) : Bool := !s.wr && nameB (txt 1 s)
def nameS (s : S) : List UInt8 × S := if nameOk s then (txt 1 s, s.pass) else ([], s.bad)
def lifeOk (s : S) : Bool := !s.wr && decide (2 ≤ (txt 3 s).length) && nameB ((txt 3 s).drop 1)
def lifeS (s : S) : List UInt8 × S := if lifeOk s then ((txt 3 s).drop 1, s.pass) else ([], s.bad)
def valD (l : List UInt8) : Nat := l.foldl (fun a c => 10 * a + (c.toNat - 48)) 0
def numOk (most : Nat) (s : S) : Bool := !s.wr && !(txt 2 s).isEmpty && decide (valD (txt 2 s) ≤ most)
def numS (most : Nat) (s : S) : Int × S := if numOk most s then ((valD (txt 2 s) : Int), s.pass) else (0, s.bad)

def kFn : List UInt8 := [102, 110]
def kLet : List UInt8 := [108, 101, 116]
def kIf : List UInt8 := [105, 102]
def kElse : List UInt8 := [101, 108, 115, 101]
def kRepeat : List UInt8 := [114, 101, 112, 101, 97, 116]
def kRet : List UInt8 := [114, 101, 116]
def kBox : List UInt8 := [98, 111, 120]
def kInt : List UInt8 := [105, 110, 116]
def kMut : List UInt8 := [109, 117, 116]
def kWhere : List UInt8 := [119, 104, 101, 114, 101]
def mComma : List UInt8 := [44]
def mOpen : List UInt8 := [40]
def mShut : List UInt8 := [41]
def mAnd : List UInt8 := [38]
def mDot : List UInt8 := [46]
def mStar : List UInt8 := [42]
def mSlash : List UInt8 := [47]
def mPlus : List UInt8 := [43]
def mMinus : List UInt8 := [45]
def mLess : List UInt8 := [60]
def mSame : List UInt8 := [61, 61]
def mIs : List UInt8 := [61]
def mSemi : List UInt8 := [59]
def mColon : List UInt8 := [58]
def mBegin : List UInt8 := [123]
def mEnd : List UInt8 := [125]
def mFrom : List UInt8 := [91]
def mTo : List UInt8 := [93]
def mGives : List UInt8 := [45, 62]

/-- one thing more behind each comma -/
def moreS {α : Type} (f : S → α × S) : Nat → S → List α × S
 | 0, s => ([], s)
 | m + 1, s => if nextB s mComma then ((f s.pass).1 :: (moreS f m (f s.pass).2).1, (moreS f m (f s.pass).2).2) else ([], s)
/-- one thing, or more, commas between -/
def rowS {α : Type} (f : S → α × S) (N : Nat) (s : S) : List α × S := ((f s).1 :: (moreS f N (f s).2).1, (moreS f N (f s).2).2)

def tNone : PT := .mk 0 [] false []
def eNone : PE := .mk 0 0 [] false []
def kindS (N : Nat) : Nat → S → PT × S
 | 0, s => (tNone, s)
 | n + 1, s =>
  if s.wr then (tNone, s)
  else if nextB s kInt then (.mk 1 [] false [], s.pass)
  else if nextB s kBox then (.mk 2 [] false [(kindS N n s.pass).1], (kindS N n s.pass).2)
  else if nextB s mOpen then
   let a := kindS N n s.pass
   let b := kindS N n (mustS mComma a.2)
   let c := moreS (kindS N n) N b.2
   (.mk 3 [] false (a.1 :: b.1 :: c.1), mustS mShut c.2)
  else
   let a := lifeS (mustS mAnd s)
   let m := nextB a.2 kMut
   let k := kindS N n (skipS kMut a.2)
   (.mk 4 a.1 m [k.1], k.2)
def partsS : Nat → PE → S → PE × S
 | 0, e, s => (e, s)
 | m + 1, e, s => if nextB s mDot then partsS m (.mk 3 (numS 29 s.pass).1 [] false [e]) (numS 29 s.pass).2 else (e, s)
def placeS (N : Nat) : Nat → S → PE × S
 | 0, s => (eNone, s)
 | n + 1, s =>
  if s.wr then (eNone, s)
  else if nextB s mStar then (.mk 4 0 [] false [(placeS N n s.pass).1], (placeS N n s.pass).2)
  else if nextB s mOpen then
   let k := placeS N n s.pass
   partsS N k.1 (mustS mShut k.2)
  else partsS N (.mk 2 0 (nameS s).1 false []) (nameS s).2
/-- operations of one strength, from the left -/
def opsS (f : S → PE × S) (a b : List UInt8) : Nat → PE → S → PE × S
 | 0, e, s => (e, s)
 | m + 1, e, s => if nextB s a || nextB s b then opsS f a b m (.mk 8 0 (txt 4 s) false [e, (f s.pass).1]) (f s.pass).2 else (e, s)
def productS (one : S → PE × S) (N : Nat) (s : S) : PE × S := opsS one mStar mSlash N (one s).1 (one s).2
def sumS (one : S → PE × S) (N : Nat) (s : S) : PE × S := opsS (productS one N) mPlus mMinus N (productS one N s).1 (productS one N s).2
def exprS (one : S → PE × S) (N : Nat) (s : S) : PE × S :=
 let a := sumS one N s
 if nextB a.2 mLess || nextB a.2 mSame then (.mk 8 0 (txt 4 a.2) false [a.1, (sumS one N a.2.pass).1], (sumS one N a.2.pass).2) else a
def PE.kind : PE → Int | .mk k _ _ _ _ => k
def oneS (N : Nat) : Nat → S → PE × S
 | 0, s => (eNone, s)
 | n + 1, s =>
  if s.wr then (eNone, s)
  else if !(txt 2 s).isEmpty then (.mk 1 (numS 999999999999999999 s).1 [] false [], (numS 999999999999999999 s).2)
  else if nextB s kBox then (.mk 6 0 [] false [(oneS N n s.pass).1], (oneS N n s.pass).2)
  else if nextB s mAnd then
   let k := placeS N n (skipS kMut s.pass)
   (.mk 5 0 [] (nextB s.pass kMut) [k.1], k.2)
  else if nextB s mStar then placeS N (n + 1) s
  else if nextB s mOpen then
   let l := rowS (exprS (oneS N n) N) N s.pass
   let s3 := mustS mShut l.2
   match l.1 with
   | [e] => if placeK e.kind then partsS N e s3 else (e, s3)
   | l => (.mk 7 0 [] false l, s3)
  else
   let a := nameS s
   if nextB a.2 mOpen then
    if nextB a.2.pass mShut then (.mk 9 0 a.1 false [], a.2.pass.pass)
    else
     let l := rowS (exprS (oneS N n) N) N a.2.pass
     (.mk 9 0 a.1 false l.1, mustS mShut l.2)
   else partsS N (.mk 2 0 a.1 false []) a.2
/-- an expression -/
def exS (N : Nat) : S → PE × S := exprS (oneS N (N + 1)) N
def stmtsS (f : S → PS × S) (stop : List UInt8) : Nat → S → List PS × S
 | 0, s => ([], s)
 | m + 1, s => if s.wr then ([], s) else if nextB s stop then ([], s.pass) else ((f s).1 :: (stmtsS f stop m (f s).2).1, (stmtsS f stop m (f s).2).2)
def stmtS (N : Nat) : Nat → S → PS × S
 | 0, s => (.mk 0 [] eNone eNone [] [], s)
 | n + 1, s =>
  if nextB s kIf then
   let e := exS N s.pass
   let t := stmtsS (stmtS N n) mEnd (N + 2) (mustS mBegin e.2)
   let l := stmtsS (stmtS N n) mEnd (N + 2) (mustS mBegin (mustS kElse t.2))
   (.mk 3 [] eNone e.1 t.1 l.1, l.2)
  else if nextB s kRepeat then
   let e := exS N s.pass
   let t := stmtsS (stmtS N n) mEnd (N + 2) (mustS mBegin e.2)
   (.mk 4 [] eNone e.1 t.1 [], t.2)
  else if nextB s kLet then
   let x := nameS s.pass
   let e := exS N (mustS mIs x.2)
   (.mk 1 x.1 eNone e.1 [] [], mustS mSemi e.2)
  else
   let p := placeS N (N + 1) s
   let e := exS N (mustS mIs p.2)
   (.mk 2 [] p.1 e.1 [] [], mustS mSemi e.2)
def tyS (N : Nat) : S → PT × S := kindS N (N + 1)
def paramS (N : Nat) (s : S) : PP × S :=
 let x := nameS s
 let t := tyS N (mustS mColon x.2)
 (⟨x.1, t.1⟩, t.2)
def outS (s : S) : (List UInt8 × List UInt8) × S :=
 let a := lifeS s
 let b := lifeS (mustS mColon a.2)
 ((a.1, b.1), b.2)
def livesS (N : Nat) (s : S) : List (List UInt8) × S :=
 if nextB s mFrom then ((rowS lifeS N s.pass).1, mustS mTo (rowS lifeS N s.pass).2) else ([], s)
def paramsS (N : Nat) (s : S) : List PP × S :=
 if nextB s mShut then ([], s.pass) else ((rowS (paramS N) N s).1, mustS mShut (rowS (paramS N) N s).2)
def flat2 : List (List UInt8 × List UInt8) → List (List UInt8)
 | [] => []
 | (a, b) :: l => a :: b :: flat2 l
def outsS (N : Nat) (s : S) : List (List UInt8) × S :=
 if nextB s kWhere then (flat2 (rowS outS N s.pass).1, (rowS outS N s.pass).2) else ([], s)
def fnS (N : Nat) (s : S) : PF × S :=
 let x := nameS (mustS kFn s)
 let l := livesS N x.2
 let p := paramsS N (mustS mOpen l.2)
 let g := tyS N (mustS mGives p.2)
 let o := outsS N g.2
 let b := stmtsS (stmtS N (N + 1)) kRet (N + 2) (mustS mBegin o.2)
 let e := exS N b.2
 (⟨x.1, l.1, p.1, g.1, o.1, b.1, e.1⟩, mustS mEnd (mustS mSemi e.2))
def fnsS (N : Nat) : Nat → S → List PF × S
 | 0, s => ([], s)
 | m + 1, s => if s.wr || s.rest.isEmpty then ([], s) else ((fnS N s).1 :: (fnsS N m (fnS N s).2).1, (fnsS N m (fnS N s).2).2)

/-! ### What is left never grows -/
theorem pass_le (s : S) : s.pass.rest.length ≤ s.rest.length := by simp [S.pass]
theorem bad_le (s : S) : s.bad.rest.length ≤ s.rest.length := Nat.le_refl _
theorem next_some {s : S} {x : List UInt8} (h : nextB s x = true) (hx : x ≠ []) : s.wr = false ∧ ∃ t r, s.rest = t :: r := by
 unfold nextB txt at h
 cases hr : s.rest with
 | nil => rw [hr] at h; cases x <;> simp_all
 | cons t r => exact ⟨by simp at h; exact h.1, t, r, rfl⟩
theorem next_pass {s : S} {x : List UInt8} (h : nextB s x = true) (hx : x ≠ []) : s.pass.rest.length + 1 = s.rest.length ∧ s.pass.wr = false := by
 obtain ⟨h1, t, r, h2⟩ := next_some h hx
 simp [S.pass, h1, h2]
theorem skip_le (x : List UInt8) (s : S) : (skipS x s).rest.length ≤ s.rest.length := by
 unfold skipS; split
 ·exact pass_le s
 ·exact Nat.le_refl _
theorem must_le (x : List UInt8) (s : S) : (mustS x s).rest.length ≤ s.rest.length := by
 unfold mustS; split
 ·exact pass_le s
 ·exact bad_le s
theorem name_le (s : S) : (nameS s).2.rest.length ≤ s.rest.length := by
 unfold nameS; split
 ·exact pass_le s
 ·exact bad_le s
theorem life_le (s : S) : (lifeS s).2.rest.length ≤ s.rest.length := by
 unfold lifeS; split
 ·exact pass_le s
 ·exact bad_le s
theorem num_le (m : Nat) (s : S) : (numS m s).2.rest.length ≤ s.rest.length := by
 unfold numS; split
 ·exact pass_le s
 ·exact bad_le s
theorem more_le {α : Type} {f : S → α × S} (hf : ∀ s, (f s).2.rest.length ≤ s.rest.length) : ∀ (m : Nat) (s : S), (moreS f m s).2.rest.length ≤ s.rest.length
 | 0, s => Nat.le_refl _
 | m + 1, s => by
  rw [moreS]
  split
  ·exact Nat.le_trans (more_le hf m _) (Nat.le_trans (hf _) (pass_le s))
  ·exact Nat.le_refl _
theorem row_le {α : Type} {f : S → α × S} (hf : ∀ s, (f s).2.rest.length ≤ s.rest.length) (N : Nat) (s : S) : (rowS f N s).2.rest.length ≤ s.rest.length :=
 Nat.le_trans (more_le hf N _) (hf s)
theorem kind_le (N : Nat) : ∀ (n : Nat) (s : S), (kindS N n s).2.rest.length ≤ s.rest.length
 | 0, s => Nat.le_refl _
 | n + 1, s => by
  rw [kindS]
  have ih := kind_le N n
  split
  ·exact Nat.le_refl _
  split
  ·exact pass_le s
  split
  ·exact Nat.le_trans (ih _) (pass_le s)
  split
  ·exact Nat.le_trans (must_le _ _) (Nat.le_trans (more_le ih N _) (Nat.le_trans (ih _) (Nat.le_trans (must_le _ _) (Nat.le_trans (ih _) (pass_le s)))))
  ·exact Nat.le_trans (ih _) (Nat.le_trans (skip_le _ _) (Nat.le_trans (life_le _) (must_le _ _)))
theorem parts_le : ∀ (m : Nat) (e : PE) (s : S), (partsS m e s).2.rest.length ≤ s.rest.length
 | 0, e, s => Nat.le_refl _
 | m + 1, e, s => by
  rw [partsS]
  split
  ·exact Nat.le_trans (parts_le m _ _) (Nat.le_trans (num_le _ _) (pass_le s))
  ·exact Nat.le_refl _
theorem place_le (N : Nat) : ∀ (n : Nat) (s : S), (placeS N n s).2.rest.length ≤ s.rest.length
 | 0, s => Nat.le_refl _
 | n + 1, s => by
  rw [placeS]
  have ih := place_le N n
  split
  ·exact Nat.le_refl _
  split
  ·exact Nat.le_trans (ih _) (pass_le s)
  split
  ·exact Nat.le_trans (parts_le _ _ _) (Nat.le_trans (must_le _ _) (Nat.le_trans (ih _) (pass_le s)))
  ·exact Nat.le_trans (parts_le _ _ _) (name_le s)
theorem ops_le {f : S → PE × S} {a b : List UInt8} (hf : ∀ s, (f s).2.rest.length ≤ s.rest.length) : ∀ (m : Nat) (e : PE) (s : S), (opsS f a b m e s).2.rest.length ≤ s.rest.length
 | 0, e, s => Nat.le_refl _
 | m + 1, e, s => by
  rw [opsS]
  split
  ·exact Nat.le_trans (ops_le hf m _ _) (Nat.le_trans (hf _) (pass_le s))
  ·exact Nat.le_refl _
theorem product_le {f : S → PE × S} (hf : ∀ s, (f s).2.rest.length ≤ s.rest.length) (N : Nat) (s : S) : (productS f N s).2.rest.length ≤ s.rest.length := Nat.le_trans (ops_le hf N _ _) (hf s)
theorem sum_le {f : S → PE × S} (hf : ∀ s, (f s).2.rest.length ≤ s.rest.length) (N : Nat) (s : S) : (sumS f N s).2.rest.length ≤ s.rest.length := Nat.le_trans (ops_le (product_le hf N) N _ _) (product_le hf N s)
theorem expr_le {f : S → PE × S} (hf : ∀ s, (f s).2.rest.length ≤ s.rest.length) (N : Nat) (s : S) : (exprS f N s).2.rest.length ≤ s.rest.length := by
 unfold exprS
 have h1 := sum_le hf N s
 simp only
 split
 ·exact Nat.le_trans (sum_le hf N _) (Nat.le_trans (pass_le _) h1)
 ·exact h1
theorem one_le (N : Nat) : ∀ (n : Nat) (s : S), (oneS N n s).2.rest.length ≤ s.rest.length
 | 0, s => Nat.le_refl _
 | n + 1, s => by
  rw [oneS]
  have ih := one_le N n
  have he := row_le (expr_le ih N) N
  split
  ·exact Nat.le_refl _
  split
  ·exact num_le _ s
  split
  ·exact Nat.le_trans (ih _) (pass_le s)
  split
  ·exact Nat.le_trans (place_le N n _) (Nat.le_trans (skip_le _ _) (pass_le s))
  split
  ·exact place_le N (n + 1) s
  split
  ·have h1 : (mustS mShut (rowS (exprS (oneS N n) N) N s.pass).2).rest.length ≤ s.rest.length := Nat.le_trans (must_le _ _) (Nat.le_trans (he _) (pass_le s))
   simp only
   split
   ·split
    ·exact Nat.le_trans (parts_le _ _ _) h1
    ·exact h1
   ·exact h1
  ·simp only
   split
   ·split
    ·exact Nat.le_trans (pass_le _) (Nat.le_trans (pass_le _) (name_le s))
    ·exact Nat.le_trans (must_le _ _) (Nat.le_trans (he _) (Nat.le_trans (pass_le _) (name_le s)))
   ·exact Nat.le_trans (parts_le _ _ _) (name_le s)
theorem ex_le (N : Nat) (s : S) : (exS N s).2.rest.length ≤ s.rest.length := expr_le (one_le N (N + 1)) N s
theorem stmts_le {f : S → PS × S} (hf : ∀ s, (f s).2.rest.length ≤ s.rest.length) (x : List UInt8) : ∀ (m : Nat) (s : S), (stmtsS f x m s).2.rest.length ≤ s.rest.length
 | 0, s => Nat.le_refl _
 | m + 1, s => by
  rw [stmtsS]
  split
  ·exact Nat.le_refl _
  split
  ·exact pass_le s
  ·exact Nat.le_trans (stmts_le hf x m _) (hf s)
theorem stmt_le (N : Nat) : ∀ (n : Nat) (s : S), (stmtS N n s).2.rest.length ≤ s.rest.length
 | 0, s => Nat.le_refl _
 | n + 1, s => by
  rw [stmtS]
  have ih := fun x => stmts_le (stmt_le N n) x (N + 2)
  split
  ·exact Nat.le_trans (ih _ _) (Nat.le_trans (must_le _ _) (Nat.le_trans (must_le _ _) (Nat.le_trans (ih _ _) (Nat.le_trans (must_le _ _) (Nat.le_trans (ex_le N _) (pass_le s))))))
  split
  ·exact Nat.le_trans (ih _ _) (Nat.le_trans (must_le _ _) (Nat.le_trans (ex_le N _) (pass_le s)))
  split
  ·exact Nat.le_trans (must_le _ _) (Nat.le_trans (ex_le N _) (Nat.le_trans (must_le _ _) (Nat.le_trans (name_le _) (pass_le s))))
  ·exact Nat.le_trans (must_le _ _) (Nat.le_trans (ex_le N _) (Nat.le_trans (must_le _ _) (place_le N _ s)))
theorem param_le (N : Nat) (s : S) : (paramS N s).2.rest.length ≤ s.rest.length := Nat.le_trans (kind_le N _ _) (Nat.le_trans (must_le _ _) (name_le s))
theorem out_le (s : S) : (outS s).2.rest.length ≤ s.rest.length := Nat.le_trans (life_le _) (Nat.le_trans (must_le _ _) (life_le s))
theorem lives_le (N : Nat) (s : S) : (livesS N s).2.rest.length ≤ s.rest.length := by
 unfold livesS; split
 ·exact Nat.le_trans (must_le _ _) (Nat.le_trans (row_le life_le N _) (pass_le s))
 ·exact Nat.le_refl _
theorem params_le (N : Nat) (s : S) : (paramsS N s).2.rest.length ≤ s.rest.length := by
 unfold paramsS; split
 ·exact pass_le s
 ·exact Nat.le_trans (must_le _ _) (row_le (param_le N) N _)
theorem outs_le (N : Nat) (s : S) : (outsS N s).2.rest.length ≤ s.rest.length := by
 unfold outsS; split
 ·exact Nat.le_trans (row_le out_le N _) (pass_le s)
 ·exact Nat.le_refl _
theorem fn_le (N : Nat) (s : S) : (fnS N s).2.rest.length ≤ s.rest.length :=
 Nat.le_trans (must_le _ _) (Nat.le_trans (must_le _ _) (Nat.le_trans (ex_le N _) (Nat.le_trans (stmts_le (stmt_le N _) _ _ _) (Nat.le_trans (must_le _ _) (Nat.le_trans (outs_le N _) (Nat.le_trans (kind_le N _ _) (Nat.le_trans (must_le _ _) (Nat.le_trans (params_le N _) (Nat.le_trans (must_le _ _) (Nat.le_trans (lives_le N _) (Nat.le_trans (name_le _) (must_le _ s))))))))))))
end Go.Proofs.YtemflcojebanlaaGreatDoor.ParP
/- What a tree says does not hang on the values that its lists have in memory: so what is read of a text is what its tokens say. No program. -/
namespace Go.Proofs.YtemflcojebanlaaGreatDoor.NmP
open Go Go.RowKit LexP TreeP ParP

mutual
def blT : Ty → Ty | .mk k l m _ kids => .mk k l m .nilIface (blTs kids)
def blTs : List Ty → List Ty | [] => [] | t :: ts => blT t :: blTs ts
end
mutual
def blE : Ex → Ex | .mk k n s m _ kids => .mk k n s m .nilIface (blEs kids)
def blEs : List Ex → List Ex | [] => [] | t :: ts => blE t :: blEs ts
end
mutual
def blS : St → St | .mk k n p e _ th _ el => .mk k n (blE p) (blE e) .nilIface (blSs th) .nilIface (blSs el)
def blSs : List St → List St | [] => [] | t :: ts => blS t :: blSs ts
end
def blPa (p : Pa) : Pa := ⟨p.name, blT p.type⟩
def blF (f : TreeP.Fn) : TreeP.Fn := ⟨f.name, .nilIface, f.lives, .nilIface, f.pars.map blPa, blT f.gives, .nilIface, f.outs, .nilIface, blSs f.body, blE f.value⟩
abbrev lb (l : List UInt8) : ByteArray := ⟨l.toArray⟩
theorem lb_bs (s : ByteArray) : lb (bs s) = s := by simp [lb, bs]
mutual
def liT : PT → Ty | .mk k l m kids => .mk k (lb l) m .nilIface (liTs kids)
def liTs : List PT → List Ty | [] => [] | t :: ts => liT t :: liTs ts
end
mutual
def liE : PE → Ex | .mk k n s m kids => .mk k n (lb s) m .nilIface (liEs kids)
def liEs : List PE → List Ex | [] => [] | t :: ts => liE t :: liEs ts
end
mutual
def liS : PS → St | .mk k n p e th el => .mk k (lb n) (liE p) (liE e) .nilIface (liSs th) .nilIface (liSs el)
def liSs : List PS → List St | [] => [] | t :: ts => liS t :: liSs ts
end
def liPa (p : PP) : Pa := ⟨lb p.name, liT p.type⟩
def liF (f : PF) : TreeP.Fn := ⟨lb f.name, .nilIface, f.lives.map lb, .nilIface, f.pars.map liPa, liT f.gives, .nilIface, f.outs.map lb, .nilIface, liSs f.body, liE f.value⟩
mutual
theorem liT_er : ∀ t, liT (erT t) = blT t | .mk k l m v kids => by rw [erT, liT, blT, liTs_er kids, lb_bs]
theorem liTs_er : ∀ l, liTs (erTs l) = blTs l | [] => rfl | t :: ts => by rw [erTs, liTs, blTs, liT_er t, liTs_er ts]
end
mutual
theorem liE_er : ∀ t, liE (erE t) = blE t | .mk k n l m v kids => by rw [erE, liE, blE, liEs_er kids, lb_bs]
theorem liEs_er : ∀ l, liEs (erEs l) = blEs l | [] => rfl | t :: ts => by rw [erEs, liEs, blEs, liE_er t, liEs_er ts]
end
mutual
theorem liS_er : ∀ t, liS (erS t) = blS t | .mk k n p e tv th ev el => by rw [erS, liS, blS, liSs_er th, liSs_er el, liE_er, liE_er, lb_bs]
theorem liSs_er : ∀ l, liSs (erSs l) = blSs l | [] => rfl | t :: ts => by rw [erSs, liSs, blSs, liS_er t, liSs_er ts]
end
theorem lbs_map (l : List ByteArray) : (l.map bs).map lb = l := by rw [List.map_map]; exact (List.map_congr_left (fun s _ => lb_bs s)).trans (List.map_id l)
theorem liF_er (f : TreeP.Fn) : liF (erF f) = blF f := by
 have h : (f.pars.map erPa).map liPa = f.pars.map blPa := by
  rw [List.map_map]
  refine List.map_congr_left fun p _ => ?_
  show liPa (erPa p) = blPa p
  unfold liPa erPa blPa
  simp only [liT_er, lb_bs]
 unfold liF erF blF
 simp only [liT_er, liSs_er, liE_er, lb_bs, lbs_map, h]
/-! ### types -/
theorem blTs_len : ∀ l, (blTs l).length = l.length | [] => rfl | t :: ts => by rw [blTs, List.length_cons, List.length_cons, blTs_len ts]
theorem blEs_len : ∀ l, (blEs l).length = l.length | [] => rfl | t :: ts => by rw [blEs, List.length_cons, List.length_cons, blEs_len ts]
theorem blSs_len : ∀ l, (blSs l).length = l.length | [] => rfl | t :: ts => by rw [blSs, List.length_cons, List.length_cons, blSs_len ts]
mutual
theorem wT_bl : ∀ t, wT (blT t) = wT t | .mk k l m v kids => by rw [blT, wT, wT, wTs_bl kids]
theorem wTs_bl : ∀ l, wTs (blTs l) = wTs l | [] => rfl | t :: ts => by rw [blTs, wTs, wTs, wT_bl t, wTs_bl ts]
end
mutual
theorem rightT_bl : ∀ t, rightT (blT t) = rightT t | .mk k l m v kids => by rw [blT, rightT, rightT, rightTs_bl kids, blTs_len]
theorem rightTs_bl : ∀ l, rightTs (blTs l) = rightTs l | [] => rfl | t :: ts => by rw [blTs, rightTs, rightTs, rightT_bl t, rightTs_bl ts]
end
mutual
theorem deepT_bl : ∀ t, deepT (blT t) = deepT t | .mk k l m v kids => by rw [blT, deepT, deepT, deepTs_bl kids]
theorem deepTs_bl : ∀ l, deepTs (blTs l) = deepTs l | [] => rfl | t :: ts => by rw [blTs, deepTs, deepTs, deepT_bl t, deepTs_bl ts]
end
mutual
theorem refsT_bl : ∀ t, refsT (blT t) = refsT t | .mk k l m v kids => by rw [blT, refsT, refsT, refsTs_bl kids]
theorem refsTs_bl : ∀ l, refsTs (blTs l) = refsTs l | [] => rfl | t :: ts => by rw [blTs, refsTs, refsTs, refsT_bl t, refsTs_bl ts]
end
mutual
theorem wholeT_bl : ∀ t, wholeT (blT t) = wholeT t | .mk k l m v kids => by rw [blT, wholeT, wholeT, wholeTs_bl _ kids]
theorem wholeTs_bl (i : Bool) : ∀ l, wholeTs i (blTs l) = wholeTs i l | [] => rfl | t :: ts => by rw [blTs, wholeTs, wholeTs, wholeT_bl t, wholeTs_bl i ts, refsT_bl]
end
mutual
theorem livesT_bl (s : List Nm) : ∀ t, livesT s (blT t) = livesT s t | .mk k l m v kids => by rw [blT, livesT, livesT, livesTs_bl s kids]
theorem livesTs_bl (s : List Nm) : ∀ l, livesTs s (blTs l) = livesTs s l | [] => rfl | t :: ts => by rw [blTs, livesTs, livesTs, livesT_bl s t, livesTs_bl s ts]
end
/-! ### expressions -/
theorem kind_bl : ∀ e, (blE e).kind = e.kind | .mk k n s m v kids => by rw [blE]; rfl
theorem str_bl : ∀ e, (blE e).str = e.str | .mk k n s m v kids => by rw [blE]; rfl
theorem place_bl (e : Ex) : (blE e).place = e.place := by unfold Ex.place; rw [kind_bl]
theorem none_bl : ∀ e, (blE e).none = e.none | .mk k n s m v kids => by rw [blE]; unfold Ex.none; simp only [Ex.kind, Ex.num, Ex.name, Ex.mt, Ex.kids, blEs_len]
theorem allPlace_bl : ∀ l, (blEs l).all Ex.place = l.all Ex.place | [] => rfl | t :: ts => by rw [blEs, List.all_cons, List.all_cons, place_bl, allPlace_bl ts]
mutual
theorem wE_bl : ∀ t, wE (blE t) = wE t | .mk k n l m v kids => by rw [blE, wE, wE, wEs_bl kids]
theorem wEs_bl : ∀ l, wEs (blEs l) = wEs l | [] => rfl | t :: ts => by rw [blEs, wEs, wEs, wE_bl t, wEs_bl ts]
end
mutual
theorem rightE_bl : ∀ t, rightE (blE t) = rightE t | .mk k n l m v kids => by rw [blE, rightE, rightE, rightEs_bl kids, blEs_len, allPlace_bl]
theorem rightEs_bl : ∀ l, rightEs (blEs l) = rightEs l | [] => rfl | t :: ts => by rw [blEs, rightEs, rightEs, rightE_bl t, rightEs_bl ts]
end
mutual
theorem deepE_bl : ∀ t, deepE (blE t) = deepE t | .mk k n l m v kids => by rw [blE, deepE, deepE, deepEk_bl _ _ _ kids]
theorem deepEk_bl : ∀ (o : Bool) (s i : Nat) (l : List Ex), deepEk o s i (blEs l) = deepEk o s i l | _, _, _, [] => by rw [blEs, deepEk] | o, s, i, t :: ts => by rw [blEs, deepEk, deepEk, deepE_bl t, deepEk_bl o s (i + 1) ts, str_bl]
end
theorem parsN_bl (s : Nm) : ∀ l, parsN s (l.map blF) = parsN s l
 | [] => rfl
 | f :: fs => by rw [List.map_cons, parsN, parsN, parsN_bl s fs]; simp [blF]
theorem ownE_bl (k : Int) (s : Nm) (n : Nat) (sc : List Nm) (a : List TreeP.Fn) : ownE k s n sc (a.map blF) = ownE k s n sc a := by unfold ownE; rw [parsN_bl]
mutual
theorem exprN_bl (sc : List Nm) (a : List TreeP.Fn) : ∀ t, exprN sc (a.map blF) (blE t) = exprN sc a t | .mk k n l m v kids => by rw [blE, exprN, exprN, exprNs_bl sc a kids, blEs_len, ownE_bl]
theorem exprNs_bl (sc : List Nm) (a : List TreeP.Fn) : ∀ l, exprNs sc (a.map blF) (blEs l) = exprNs sc a l | [] => rfl | t :: ts => by rw [blEs, exprNs, exprNs, exprN_bl sc a t, exprNs_bl sc a ts]
end
/-! ### statements -/
mutual
theorem wS_bl : ∀ t, wS (blS t) = wS t | .mk k n p e tv th ev el => by rw [blS, wS, wS, wSs_bl th, wSs_bl el, wE_bl, wE_bl]
theorem wSs_bl : ∀ l, wSs (blSs l) = wSs l | [] => rfl | t :: ts => by rw [blSs, wSs, wSs, wS_bl t, wSs_bl ts]
end
theorem askS_bl (k : Int) (n : List UInt8) (p : Ex) (a b : Nat) : askS k n (blE p) a b = askS k n p a b := by unfold askS; rw [none_bl, place_bl, rightE_bl]
mutual
theorem rightS_bl : ∀ t, rightS (blS t) = rightS t | .mk k n p e tv th ev el => by rw [blS, rightS, rightS, rightSs_bl th, rightSs_bl el, rightE_bl, blSs_len, blSs_len, askS_bl]
theorem rightSs_bl : ∀ l, rightSs (blSs l) = rightSs l | [] => rfl | t :: ts => by rw [blSs, rightSs, rightSs, rightS_bl t, rightSs_bl ts]
end
mutual
theorem loopS_bl : ∀ t, loopS (blS t) = loopS t | .mk k n p e tv th ev el => by rw [blS, loopS, loopS, loopSs_bl th, loopSs_bl el]
theorem loopSs_bl : ∀ l, loopSs (blSs l) = loopSs l | [] => rfl | t :: ts => by rw [blSs, loopSs, loopSs, loopS_bl t, loopSs_bl ts]
end
mutual
theorem deepS_bl : ∀ t, deepS (blS t) = deepS t | .mk k n p e tv th ev el => by rw [blS, deepS, deepS, deepSs_bl th, deepSs_bl el, deepE_bl, deepE_bl]
theorem deepSs_bl : ∀ l, deepSs (blSs l) = deepSs l | [] => rfl | t :: ts => by rw [blSs, deepSs, deepSs, deepS_bl t, deepSs_bl ts]
end
theorem stK_bl : ∀ s, stK (blS s) = stK s | .mk k n p e tv th ev el => by rw [blS]; rfl
theorem stN_bl : ∀ s, stN (blS s) = stN s | .mk k n p e tv th ev el => by rw [blS]; rfl
mutual
theorem stmtN_bl (sc : List Nm) (a : List TreeP.Fn) : ∀ t, stmtN sc (a.map blF) (blS t) = stmtN sc a t | .mk k n p e tv th ev el => by rw [blS, stmtN, stmtN, stmtsN_bl sc a th, stmtsN_bl sc a el, exprN_bl, exprN_bl]
theorem stmtsN_bl (sc : List Nm) (a : List TreeP.Fn) : ∀ l, stmtsN sc (a.map blF) (blSs l) = stmtsN sc a l
 | [] => rfl
 | .mk k n p e tv th ev el :: ts => by
  have h1 := stmtN_bl sc a (.mk k n p e tv th ev el)
  have h2 := stmtsN_bl (behindS sc k (bs n)) a ts
  rw [blSs, stmtsN_cons, stmtsN_cons, h1, stK_bl, stN_bl]
  rw [show stK (.mk k n p e tv th ev el) = k from rfl, show stN (.mk k n p e tv th ev el) = n from rfl, h2]
end
theorem behind_bl : ∀ (l : List St) (sc : List Nm), behind sc (blSs l) = behind sc l
 | [], _ => rfl
 | s :: ss, sc => by rw [blSs, behind, behind, stK_bl, stN_bl, behind_bl ss]
/-! ### functions -/
theorem wPas_bl : ∀ l, wPas (l.map blPa) = wPas l | [] => rfl | p :: ps => by rw [List.map_cons, wPas, wPas, wPas_bl ps]; simp [wPa, blPa, wT_bl]
theorem wF_bl (f : TreeP.Fn) : wF (blF f) = wF f := by unfold wF blF; simp only [wPas_bl, wT_bl, wSs_bl, wE_bl]
theorem wFs_bl : ∀ l, wFs (l.map blF) = wFs l | [] => rfl | f :: fs => by rw [List.map_cons, wFs, wFs, wFs_bl fs, wF_bl]
theorem deepPs_bl : ∀ l, deepPs (l.map blPa) = deepPs l | [] => rfl | p :: ps => by rw [List.map_cons, deepPs, deepPs, deepPs_bl ps]; simp [blPa, deepT_bl]
theorem deepFs_bl : ∀ l, deepFs (l.map blF) = deepFs l | [] => rfl | f :: fs => by rw [List.map_cons, deepFs, deepFs, deepFs_bl fs]; congr 1; unfold deepF blF; simp only [deepPs_bl, deepT_bl, deepSs_bl, deepE_bl]
theorem allPa_bl (g : Pa → Bool) (hg : ∀ p, g (blPa p) = g p) : ∀ l : List Pa, (l.map blPa).all g = l.all g | [] => rfl | p :: ps => by rw [List.map_cons, List.all_cons, List.all_cons, allPa_bl g hg ps, hg]
theorem rightF_bl (f : TreeP.Fn) : rightF (blF f) = rightF f := by
 unfold rightF blF
 simp only [rightT_bl, rightE_bl, loopSs_bl, List.length_map]
 rw [allPa_bl _ (fun p => by unfold rightPa blPa; simp only [rightT_bl])]
 unfold rightL
 rw [rightSs_bl, blSs_len]
theorem rightP_bl (l : List TreeP.Fn) : rightP (l.map blF) = rightP l := by
 unfold rightP
 rw [deepFs_bl, List.length_map]
 congr 2
 induction l with
 | nil => rfl
 | cons f fs ih => rw [List.map_cons, List.all_cons, List.all_cons, ih, rightF_bl]
theorem parsOk_bl (s : List Nm) : ∀ (l : List Pa) (sn : List Nm), parsOk s sn (l.map blPa) = parsOk s sn l | [], _ => rfl | p :: ps, sn => by rw [List.map_cons, parsOk, parsOk, parsOk_bl s ps]; simp only [blPa, livesT_bl]
theorem formedN_bl (f : TreeP.Fn) (a : List TreeP.Fn) : formedN (blF f) (a.map blF) = formedN f a := by
 unfold formedN headOk wholeF bodyOk
 simp only [blF, parsN_bl, livesT_bl, parsOk_bl, wholeT_bl, stmtsN_bl, exprN_bl, behind_bl]
 rw [allPa_bl _ (fun p => by unfold blPa; simp only [wholeT_bl])]
 rw [show parNames (f.pars.map blPa) = parNames f.pars by unfold parNames; rw [List.map_map]; rfl]
 rfl
theorem goN_bl : ∀ (l a : List TreeP.Fn), goN (a.map blF) (l.map blF) = goN a l
 | [], a => by
  rw [List.map_nil, goN, goN, List.getLast?_map, List.length_map]
  cases a.getLast? with
  | none => rfl
  | some f =>
   have h1 : mainB (blF f) = mainB f := rfl
   have h2 : bareB (blF f) = bareB f := by unfold bareB blF; simp only [List.length_map]; congr 1; obtain ⟨_, _, _, _, _, ⟨_, _, _, _, _⟩, _⟩ := f; rfl
   simp only [Option.map_some, h1, h2]
 | f :: fs, a => by
  rw [List.map_cons, goN, goN, formedN_bl, List.length_map]
  have := goN_bl fs (a ++ [f])
  rw [List.map_append] at this
  rw [show [blF f] = [f].map blF from rfl, this]
theorem checkN_bl (l : List TreeP.Fn) : checkN (l.map blF) = checkN l := by
 unfold checkN
 rw [rightP_bl]
 have := goN_bl l []
 rw [List.map_nil] at this
 rw [this]
/-- what is read of a text is what its tokens say -/
theorem of_er {l : List TreeP.Fn} {r : List PF} (h : l.map erF = r) : l.map blF = r.map liF := by
 rw [← h, List.map_map]
 exact List.map_congr_left fun f _ => (liF_er f).symm
/- The two texts of the statements' awake of layer 4, as tokens and as trees; what Check answers of them. No program. -/

def tx1 : List UInt8 := [102, 110, 32, 109, 97, 105, 110, 40, 41, 32, 45, 62, 32, 105, 110, 116, 32, 123, 32, 108, 101, 116, 32, 120, 32, 61, 32, 49, 59, 32, 114, 101, 116, 32, 120, 59, 32, 125]
def tx2 : List UInt8 := [102, 110, 32, 109, 97, 105, 110, 40, 41, 32, 45, 62, 32, 105, 110, 116, 32, 123, 32, 108, 101, 116, 32, 120, 32, 61, 32, 49, 59, 32, 108, 101, 116, 32, 120, 32, 61, 32, 50, 59, 32, 114, 101, 116, 32, 120, 59, 32, 125]
def toksOf (l : List UInt8) : List Tok := match lexA l with | .inr ts => ts | _ => []
def readOf (l : List UInt8) : List PF := (fnsS (toksOf l).length (toksOf l).length ⟨toksOf l, false⟩).1
def endOf (l : List UInt8) : Bool × Nat := ((fnsS (toksOf l).length (toksOf l).length ⟨toksOf l, false⟩).2.wr, (fnsS (toksOf l).length (toksOf l).length ⟨toksOf l, false⟩).2.rest.length)
def lexed (l : List UInt8) : Bool := match lexA l with | .inr _ => true | _ => false
theorem lexA_of {l : List UInt8} (h : lexed l = true) : lexA l = .inr (toksOf l) := by
 unfold lexed at h
 unfold toksOf
 cases hq : lexA l with
 | inl _ => rw [hq] at h; cases h
 | inr _ => rfl
set_option maxRecDepth 100000 in
theorem lexed1 : lexed tx1 = true := by decide +kernel
set_option maxRecDepth 100000 in
theorem lexed2 : lexed tx2 = true := by decide +kernel
set_option maxRecDepth 100000 in
theorem end1 : endOf tx1 = (false, 0) := by decide +kernel
set_option maxRecDepth 100000 in
theorem end2 : endOf tx2 = (false, 0) := by decide +kernel
set_option maxRecDepth 100000 in
theorem right1 : rightP ((readOf tx1).map liF) = true := by decide +kernel
set_option maxRecDepth 100000 in
theorem right2 : rightP ((readOf tx2).map liF) = true := by decide +kernel
set_option maxRecDepth 100000 in
theorem w1 : wFs ((readOf tx1).map liF) ≤ 1000 := by decide +kernel
set_option maxRecDepth 100000 in
theorem w2 : wFs ((readOf tx2).map liF) ≤ 1000 := by decide +kernel
set_option maxRecDepth 100000 in
theorem check1 : checkN ((readOf tx1).map liF) = (0, -1) := by decide +kernel
set_option maxRecDepth 100000 in
theorem check2 : checkN ((readOf tx2).map liF) = (4, 0) := by decide +kernel
end Go.Proofs.YtemflcojebanlaaGreatDoor.NmP
/- A page that is being written: how it lies in memory, what is kept beside it; append of a string to what a call owns, with the place of what comes back. -/
namespace Go.Proofs.YtemflcojebanlaaGreatDoor.PageC
open Go Go.RowKit Go.Lib Go.Sort LexP TreeP LexC TreeC

/-- the world without a page's block, and without the row of its bytes -/
def hush2 (pb : Nat) (r : Option Nat) (w : World) : World := match r with
 | none => hush pb w
 | some g => hush g (hush pb w)
theorem hush2_cell {pb : Nat} {r : Option Nat} {w : World} {b o : Nat} {u : Value} (h : (hush2 pb r w).cell? ⟨b, o, none⟩ = some u) : w.cell? ⟨b, o, none⟩ = some u ∧ b ≠ pb ∧ some b ≠ r := by
 unfold hush2 at h
 cases r with
 | none => exact ⟨hush_keeps _ _ _ _ _ h, hush_cell h, by simp⟩
 | some g =>
  have h1 := hush_keeps _ _ _ _ _ h
  exact ⟨hush_keeps _ _ _ _ _ h1, hush_cell h1, fun e => hush_cell h (Option.some.inj e)⟩
theorem hush2_in {pb : Nat} {r : Option Nat} {w : World} {b o : Nat} {u : Value} (h : w.cell? ⟨b, o, none⟩ = some u) (h1 : b ≠ pb) (h2 : some b ≠ r) : (hush2 pb r w).cell? ⟨b, o, none⟩ = some u := by
 unfold hush2
 cases r with
 | none => exact hush_in h h1
 | some g => exact hush_in (hush_in h h1) (fun e => h2 (by rw [e]))
/-- all but the page and the row of its bytes is as it was; that row is the one it was, or a new one -/
structure Step (pb : Nat) (r : Option Nat) (w : World) (r' : Option Nat) (w' : World) : Prop where
 os : w'.os = w.os
 tape : w'.tape = w.tape
 output : w'.output = w.output
 size : w.heap.size ≤ w'.heap.size
 block : ∀ k, k < w.heap.size → k ≠ pb → some k ≠ r → w'.heap[k]? = w.heap[k]?
 row : r' = r ∨ ∃ g, r' = some g ∧ w.heap.size ≤ g
theorem Step.refl (pb : Nat) (r : Option Nat) (w : World) : Step pb r w r w := ⟨rfl, rfl, rfl, Nat.le_refl _, fun _ _ _ _ => rfl, .inl rfl⟩
theorem Step.trans {pb : Nat} {r r' r'' : Option Nat} {a b c : World} (h : Step pb r a r' b) (k : Step pb r' b r'' c) : Step pb r a r'' c := by
 refine ⟨k.os.trans h.os, k.tape.trans h.tape, k.output.trans h.output, Nat.le_trans h.size k.size, fun i hi h1 h2 => ?_, ?_⟩
 ·refine (k.block i (Nat.lt_of_lt_of_le hi h.size) h1 ?_).trans (h.block i hi h1 h2)
  rcases h.row with e | ⟨g, e, hg⟩
  ·rw [e]; exact h2
  ·rw [e]; intro e2; injection e2 with e2; omega
 ·rcases k.row with e | ⟨g, e, hg⟩
  ·rw [e]; exact h.row
  ·exact .inr ⟨g, e, Nat.le_trans h.size hg⟩
theorem Step.below {pb : Nat} {r : Option Nat} {w w' : World} (h : Below w.heap.size w w') : Step pb r w r w' := ⟨h.os, h.tape, h.output, h.size, fun k hk _ _ => h.block k hk, .inl rfl⟩
theorem Step.then {pb : Nat} {r r' : Option Nat} {a b c : World} (h : Step pb r a r' b) (k : Below b.heap.size b c) : Step pb r a r' c := h.trans (.below k)
theorem Step.keeps {pb : Nat} {r r' : Option Nat} {w w' : World} (h : Step pb r w r' w') : Keeps (hush2 pb r w) (hush2 pb r' w') := fun b o u hc => by
 obtain ⟨h1, h2, h3⟩ := hush2_cell hc
 have hlt : b < w.heap.size := World.block_lt_of_cell? _ _ h1
 refine hush2_in ((World.cell?_of_block (w := w) (a := ⟨b, o, none⟩) (h.block b hlt h2 h3)).trans h1) h2 ?_
 rcases h.row with e | ⟨g, e, hg⟩
 ·rw [e]; exact h3
 ·rw [e]; intro e2; injection e2 with e2; omega
/-- the row of bytes that a value lies in -/
def bytesV (l : List UInt8) : List Value := l.map fun b => .int .u8 b.toNat
/-- a text that is cut off where it is too long for a page -/
def Cut (l t : List UInt8) : Prop := l = t ∨ (20000 < l.length ∧ 20000 < t.length)
variable {P : Program} (w : World)
/- Contracts of strings.Builder's methods at the builder in a page, and of (*tree.page).full. -/

/- Contract of (*tree.page).put. -/

theorem Cut.put {l t s : List UInt8} (h : Cut l t) (hl : l.length ≤ 20000) : Cut (l ++ s) (t ++ s) := by
 rcases h with rfl | ⟨h, _⟩
 ·exact .inl rfl
 ·omega
theorem Cut.full {l t s : List UInt8} (h : Cut l t) (hl : 20000 < l.length) : Cut l (t ++ s) := by
 refine .inr ⟨hl, ?_⟩
 rw [List.length_append]
 rcases h with rfl | ⟨_, h⟩ <;> omega
/-- all texts, one behind the other -/
def joined (l : List ByteArray) : List UInt8 := l.flatMap (fun s => s.data.toList)
/- Contracts of (*tree.page).put at texts laid anew, and of tree.row at each type. -/

end Go.Proofs.YtemflcojebanlaaGreatDoor.PageC
/- Contracts of lienbookref02.row, in, mut, digits: the document's own text. -/
namespace Go.Proofs.YtemflcojebanlaaGreatDoor.TextC
open Go Go.RowKit Go.Lib Go.Sort LexP TreeP LexC TreeC PageC

/-- a text, as a string -/
def Sb (l : List UInt8) : ByteArray := ⟨l.toArray⟩
theorem bs_Sb (l : List UInt8) : bs (Sb l) = l := by simp [Sb, bs]
/-- texts, as cells -/
def strs (l : List (List UInt8)) : List Value := l.map fun t => .string (Sb t)

theorem Sb_size (l : List UInt8) : (Sb l).size = l.length := by show l.toArray.size = _; exact List.size_toArray ..
/-- how long texts are, each with a comma and a blank -/
def lens : List (List UInt8) → Nat
 | [] => 0
 | x :: l => x.length + 2 + lens l
end Go.Proofs.YtemflcojebanlaaGreatDoor.TextC
