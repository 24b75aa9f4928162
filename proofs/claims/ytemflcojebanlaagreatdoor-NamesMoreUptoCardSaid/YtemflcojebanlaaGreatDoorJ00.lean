/- Texts joined: LexPure, TreePure, TreeMem, LexDec, LexSpan. -/
import Derived.Below
import Derived.Carry
import Derived.Deep.Draws
import Derived.Lib.TrimU
import Derived.Test.YtemflcojebanlaaGreatDoorProg
import Derived.WalkKit
import Derived.WalkLawsBesides
import Derived.WalkSpells
import Derived.Shelf.GgClosure.StringsIndexFunc
/- The plain mathematics of layer 1 (lex): what a text's blank, words, numbers, lives and marks are, on lists of bytes. No program is imported. -/
namespace Go.Proofs.YtemflcojebanlaaGreatDoor.LexP

def isLet (c : UInt8) : Bool := (97 ≤ c.toNat && c.toNat ≤ 122) || (65 ≤ c.toNat && c.toNat ≤ 90) || c.toNat == 95
def isDig (c : UInt8) : Bool := 48 ≤ c.toNat && c.toNat ≤ 57
def inWd (c : UInt8) : Bool := isLet c || isDig c
def isBl (c : UInt8) : Bool := c.toNat == 32 || c.toNat == 9 || c.toNat == 10
def inRem (c : UInt8) : Bool := c.toNat != 10
def span (p : UInt8 → Bool) (l : List UInt8) : Nat := (l.takeWhile p).length
def wordN (l : List UInt8) : Nat := if 30 < span inWd l ∨ 0 < span isDig l then 0 else span inWd l
def numN (l : List UInt8) : Nat := if 18 < span isDig l then 0 else span isDig l
def lifeN (l : List UInt8) : Nat := match l with
 | c :: r => if c.toNat = 39 ∧ 0 < wordN r then 1 + wordN r else 0
 | [] => 0
def marks : List UInt8 := [40, 41, 123, 125, 91, 93, 44, 59, 58, 46, 38, 42, 61, 43, 45, 47, 60]
def two (l : List UInt8) : Bool := match l with
 | a :: b :: _ => (a.toNat == 45 && b.toNat == 62) || (a.toNat == 61 && b.toNat == 61)
 | _ => false
def markN (l : List UInt8) : Nat := if two l then 2 else match l with
 | a :: _ => if marks.contains a then 1 else 0
 | [] => 0
def signK (l : List UInt8) : Nat := if 0 < wordN l then 1 else if 0 < numN l then 2 else if 0 < lifeN l then 3 else if 0 < markN l then 4 else 0
def signN (l : List UInt8) : Nat := if 0 < wordN l then wordN l else if 0 < numN l then numN l else if 0 < lifeN l then lifeN l else markN l
/-- how much is blank: 'inside': a remark has begun -/
def skipM : Bool → List UInt8 → Nat
 | _, [] => 0
 | true, c :: r => if c.toNat = 10 then 1 + skipM false r else 1 + skipM true r
 | false, c :: r => if isBl c then 1 + skipM false r else if c.toNat = 47 ∧ r.head?.map (·.toNat) = some 47 then 1 + skipM true r else 0
def skip (l : List UInt8) : Nat := skipM false l
def rem (l : List UInt8) : Bool := match l with
 | a :: b :: _ => a.toNat == 47 && b.toNat == 47
 | _ => false

structure Tok where
 kind : Nat
 at_ : Nat
 text : List UInt8

/-- the tokens from a place on at which no blank is: so many rounds at the most, what has been read, what is left -/
def lexG : Nat → Nat → List UInt8 → List Tok → Sum Nat (List Tok)
 | 0, _, _, acc => .inr acc
 | n + 1, a, l, acc => if l = [] then .inr acc else if signN l = 0 then .inl a else
   lexG n (a + signN l + skip (l.drop (signN l))) ((l.drop (signN l)).drop (skip (l.drop (signN l)))) (acc ++ [⟨signK l, a, l.take (signN l)⟩])
def lexA (l : List UInt8) : Sum Nat (List Tok) := lexG l.length (skip l) (l.drop (skip l)) []

theorem span_le (p : UInt8 → Bool) (l : List UInt8) : span p l ≤ l.length := (List.takeWhile_sublist p).length_le
theorem span_cons_t (p : UInt8 → Bool) (c : UInt8) (r : List UInt8) (h : p c = true) : span p (c :: r) = span p r + 1 := by simp [span, h]
theorem span_cons_f (p : UInt8 → Bool) (c : UInt8) (r : List UInt8) (h : p c = false) : span p (c :: r) = 0 := by simp [span, h]

theorem skipM_rem : ∀ l : List UInt8, skipM true l = span inRem l + skipM false (l.drop (span inRem l))
 | [] => by simp [skipM, span]
 | c :: r => by
  by_cases h : c.toNat = 10
  ·have e : inRem c = false := by simp [inRem, h]
   rw [span_cons_f _ _ _ e]
   simp [skipM, h, isBl]
  ·have e : inRem c = true := by simp [inRem, h]
   rw [span_cons_t _ _ _ e]
   simp only [skipM, h, if_false, List.drop_succ_cons]
   rw [skipM_rem r]
   omega
theorem skip_span : ∀ l : List UInt8, skip l = span isBl l + skip (l.drop (span isBl l))
 | [] => by simp [skip, skipM, span]
 | c :: r => by
  by_cases h : isBl c = true
  ·rw [span_cons_t _ _ _ h]
   have := skip_span r
   simp only [skip, skipM, h, if_true, List.drop_succ_cons] at this ⊢
   omega
  ·have h' : isBl c = false := by simpa using h
   rw [span_cons_f _ _ _ h']
   simp
theorem rem_cons (c : UInt8) (r : List UInt8) : rem (c :: r) = decide (c.toNat = 47 ∧ r.head?.map (·.toNat) = some 47) := by
 cases r with
 | nil => simp [rem]
 | cons b r => simp [rem, Bool.decide_and]; rfl
theorem skip_rem (l : List UInt8) (h : rem l = true) : skip l = span inRem l + skip (l.drop (span inRem l)) := by
 cases l with
 | nil => simp [rem] at h
 | cons c r =>
  rw [rem_cons] at h
  have h1 := of_decide_eq_true h
  have hb : isBl c = false := by simp [isBl, h1.1]
  have e : inRem c = true := by simp [inRem, h1.1]
  have := skipM_rem (c :: r)
  simp only [skip]
  rw [← this]
  simp [skipM, hb, h1]
theorem skip_zero (l : List UInt8) (hb : span isBl l = 0) (hr : rem l = false) : skip l = 0 := by
 cases l with
 | nil => simp [skip, skipM]
 | cons c r =>
  have h1 : isBl c = false := by
   cases e : isBl c with
   | false => rfl
   | true => rw [span_cons_t _ _ _ e] at hb; omega
  rw [rem_cons] at hr
  have h2 := of_decide_eq_false hr
  simp only [skip, skipM, h1, Bool.false_eq_true, if_false, h2]
theorem rem_blank (l : List UInt8) (h : rem l = true) : span isBl l = 0 ∧ 0 < span inRem l := by
 cases l with
 | nil => simp [rem] at h
 | cons c r =>
  rw [rem_cons] at h
  have h1 := of_decide_eq_true h
  have hb : isBl c = false := by simp [isBl, h1.1]
  have e : inRem c = true := by simp [inRem, h1.1]
  rw [span_cons_f _ _ _ hb, span_cons_t _ _ _ e]
  omega
theorem skipM_le : ∀ (b : Bool) (l : List UInt8), skipM b l ≤ l.length
 | b, [] => by cases b <;> simp [skipM]
 | true, c :: r => by
  have h1 := skipM_le true r
  have h2 := skipM_le false r
  simp only [skipM, List.length_cons]
  split <;> omega
 | false, c :: r => by
  have h1 := skipM_le true r
  have h2 := skipM_le false r
  simp only [skipM, List.length_cons]
  split
  ·omega
  ·split <;> omega
theorem skip_le (l : List UInt8) : skip l ≤ l.length := skipM_le _ _
theorem skip_cons_bl (c : UInt8) (r : List UInt8) (h : isBl c = true) : skip (c :: r) = 1 + skip r := by simp [skip, skipM, h]
theorem wordN_le (l : List UInt8) : wordN l ≤ l.length ∧ wordN l ≤ 30 := by
 have := span_le inWd l
 unfold wordN
 split <;> omega
theorem numN_le (l : List UInt8) : numN l ≤ l.length ∧ numN l ≤ 18 := by
 have := span_le isDig l
 unfold numN
 split <;> omega
theorem lifeN_le (l : List UInt8) : lifeN l ≤ l.length ∧ lifeN l ≤ 31 := by
 cases l with
 | nil => simp [lifeN]
 | cons c r =>
  have := wordN_le r
  simp only [lifeN, List.length_cons]
  split <;> omega
theorem markN_le (l : List UInt8) : markN l ≤ l.length ∧ markN l ≤ 2 := by
 rcases l with _ | ⟨a, _ | ⟨b, r⟩⟩
 ·simp [markN, two]
 ·simp only [markN, two, Bool.false_eq_true, if_false, List.length_cons, List.length_nil]
  split <;> omega
 ·simp only [markN, List.length_cons]
  split
  ·omega
  ·split <;> omega
theorem signN_le (l : List UInt8) : signN l ≤ l.length ∧ signN l ≤ 31 := by
 have h1 := wordN_le l
 have h2 := numN_le l
 have h3 := lifeN_le l
 have h4 := markN_le l
 unfold signN
 repeat (first | split | omega)
theorem signK_zero (l : List UInt8) (h : signN l = 0) : signK l = 0 := by
 unfold signN at h
 unfold signK
 repeat (first | (split at h) | omega)
 simp_all
end Go.Proofs.YtemflcojebanlaaGreatDoor.LexP

/- The plain mathematics of layer 2 (tree): trees of types, expressions, statements, functions, with the value that each list of kids has in memory; right, deep, text, size. No program is imported. -/
namespace Go.Proofs.YtemflcojebanlaaGreatDoor.TreeP
open Go LexP

inductive Ty where
 | mk (kind : Int) (life : ByteArray) (mt : Bool) (v : Value) (kids : List Ty)
inductive Ex where
 | mk (kind num : Int) (name : ByteArray) (mt : Bool) (v : Value) (kids : List Ex)
inductive St where
 | mk (kind : Int) (name : ByteArray) (place expr : Ex) (tv : Value) (thn : List St) (ev : Value) (els : List St)
structure Pa where
 name : ByteArray
 type : Ty
structure Fn where
 name : ByteArray
 livesV : Value
 lives : List ByteArray
 parsV : Value
 pars : List Pa
 gives : Ty
 outsV : Value
 outs : List ByteArray
 bodyV : Value
 body : List St
 value : Ex

abbrev bs (s : ByteArray) : List UInt8 := s.data.toList

/-! ### What is right -/
def kept : List (List UInt8) := [[102,110], [108,101,116], [105,102], [101,108,115,101], [114,101,112,101,97,116], [114,101,116], [98,111,120], [105,110,116], [109,117,116], [119,104,101,114,101]]
def wordB (l : List UInt8) : Bool := !l.isEmpty && wordN l == l.length
def nameB (l : List UInt8) : Bool := !kept.contains l && wordB l
mutual
def rightT : Ty → Bool
 | .mk k life mt _ kids => rightTs kids && (if k = 4 then nameB (bs life) && kids.length == 1 else (bs life).isEmpty && !mt && (k == 1 && kids.length == 0 || k == 2 && kids.length == 1 || k == 3 && decide (2 ≤ kids.length) && decide (kids.length ≤ 30)))
def rightTs : List Ty → Bool
 | [] => true
 | t :: ts => rightT t && rightTs ts
end
def Ex.kind : Ex → Int | .mk k _ _ _ _ _ => k
def Ex.num : Ex → Int | .mk _ n _ _ _ _ => n
def Ex.name : Ex → ByteArray | .mk _ _ n _ _ _ => n
def Ex.mt : Ex → Bool | .mk _ _ _ m _ _ => m
def Ex.v : Ex → Value | .mk _ _ _ _ v _ => v
def Ex.kids : Ex → List Ex | .mk _ _ _ _ _ l => l
def Ty.kind : Ty → Int | .mk k _ _ _ _ => k
def Ty.life : Ty → ByteArray | .mk _ l _ _ _ => l
def Ty.mt : Ty → Bool | .mk _ _ m _ _ => m
def Ty.v : Ty → Value | .mk _ _ _ v _ => v
def Ty.kids : Ty → List Ty | .mk _ _ _ _ l => l
def placeK (k : Int) : Bool := k == 2 || k == 3 || k == 4
def Ex.place (e : Ex) : Bool := placeK e.kind
def strK (k : Int) (l : List UInt8) : Nat := if k = 8 then (if l = [60] ∨ l = [61, 61] then 1 else if l = [43] ∨ l = [45] then 2 else if l = [42] ∨ l = [47] then 3 else 4) else 4
def Ex.str (e : Ex) : Nat := strK e.kind (bs e.name)
/-- what an expression's kind asks, its kids being right -/
def askE (k num : Int) (name : List UInt8) (mt : Bool) (n : Nat) (allPlace : Bool) : Bool :=
 if k = 1 then decide (0 ≤ num) && decide (num ≤ 999999999999999999) && name.isEmpty && !mt && n == 0
 else if k = 2 then num == 0 && nameB name && !mt && n == 0
 else if k = 3 then decide (0 ≤ num) && decide (num < 30) && name.isEmpty && !mt && n == 1 && allPlace
 else if k = 4 then num == 0 && name.isEmpty && !mt && n == 1 && allPlace
 else if k = 5 then num == 0 && name.isEmpty && n == 1 && allPlace
 else if k = 6 then num == 0 && name.isEmpty && !mt && n == 1
 else if k = 7 then num == 0 && name.isEmpty && !mt && decide (2 ≤ n) && decide (n ≤ 30)
 else if k = 8 then num == 0 && !mt && n == 2 && decide (strK 8 name < 4)
 else if k = 9 then num == 0 && !mt && decide (n ≤ 30) && nameB name
 else false
mutual
def rightE : Ex → Bool
 | .mk k num name mt _ kids => rightEs kids && askE k num (bs name) mt kids.length (kids.all Ex.place)
def rightEs : List Ex → Bool
 | [] => true
 | t :: ts => rightE t && rightEs ts
end
def Ex.none (e : Ex) : Bool := e.kind == 0 && e.num == 0 && (bs e.name).isEmpty && !e.mt && e.kids.length == 0
/-- what a statement's kind asks -/
def askS (k : Int) (name : List UInt8) (place : Ex) (th el : Nat) : Bool :=
 if k = 1 then nameB name && place.none && th + el == 0
 else if k = 2 then name.isEmpty && place.place && rightE place && th + el == 0
 else if k = 3 then name.isEmpty && place.none
 else if k = 4 then name.isEmpty && place.none && el == 0
 else false
mutual
def rightS : St → Bool
 | .mk k name place expr _ thn _ els => rightE expr && (rightSs thn && decide (thn.length ≤ 30)) && (rightSs els && decide (els.length ≤ 30)) && askS k (bs name) place thn.length els.length
def rightSs : List St → Bool
 | [] => true
 | t :: ts => rightS t && rightSs ts
end
def rightL (l : List St) : Bool := rightSs l && decide (l.length ≤ 30)
mutual
def loopS : St → Nat
 | .mk k _ _ _ _ thn _ els => max (loopSs thn) (loopSs els) + if k = 4 then 1 else 0
def loopSs : List St → Nat
 | [] => 0
 | t :: ts => max (loopS t) (loopSs ts)
end
def namesB (l : List ByteArray) : Bool := l.all (fun s => nameB (bs s)) && decide (l.length ≤ 30)
def rightPa (p : Pa) : Bool := nameB (bs p.name) && rightT p.type
def rightF (f : Fn) : Bool := f.pars.all rightPa && nameB (bs f.name) && namesB f.lives && decide (f.pars.length ≤ 30) && rightT f.gives && namesB f.outs && f.outs.length % 2 == 0 && rightL f.body && decide (loopSs f.body ≤ 3) && rightE f.value

/-! ### How deep -/
mutual
def deepT : Ty → Nat
 | .mk k _ _ _ kids => if k < 2 ∨ 4 < k then 0 else deepTs kids + 1
def deepTs : List Ty → Nat
 | [] => 0
 | t :: ts => max (deepT t) (deepTs ts)
end
/-- does the i-th kid, of such a strength, of an Oper stand in parentheses? -/
def asideB (s t i : Nat) : Bool := if s = 1 then t == 1 else decide (t < s) || (i == 1 && t == s)
mutual
def deepE : Ex → Nat
 | .mk k _ name _ _ kids => if k < 3 ∨ 9 < k then 0 else deepEk (k == 8) (strK k (bs name)) 0 kids + 1
def deepEk : Bool → Nat → Nat → List Ex → Nat
 | _, _, _, [] => 0
 | o, s, i, e :: es => max (deepE e + if o = true ∧ i < 2 ∧ asideB s e.str i = true then 1 else 0) (deepEk o s (i + 1) es)
end
mutual
def deepS : St → Nat
 | .mk _ _ place expr _ thn _ els => 1 + max (max (deepE place) (deepE expr)) (max (deepSs thn) (deepSs els))
def deepSs : List St → Nat
 | [] => 0
 | t :: ts => max (deepS t) (deepSs ts)
end
def deepPs : List Pa → Nat
 | [] => 0
 | p :: ps => max (deepT p.type) (deepPs ps)
def deepF (f : Fn) : Nat := max (max (deepT f.gives) (max (deepSs f.body) (deepE f.value))) (deepPs f.pars)
def deepFs : List Fn → Nat
 | [] => 0
 | f :: fs => max (deepF f) (deepFs fs)
def rightP (p : List Fn) : Bool := p.all rightF && decide (p.length ≤ 30) && decide (deepFs p ≤ 40)

/-! ### The text -/
def decB : Nat → Nat → List UInt8 → List UInt8
 | 0, _, acc => acc
 | f + 1, n, acc => if n / 10 = 0 then UInt8.ofNat (48 + n % 10) :: acc else decB f (n / 10) (UInt8.ofNat (48 + n % 10) :: acc)
def dec (n : Nat) : List UInt8 := decB 20 n []
def row : List (List UInt8) → List UInt8
 | [] => []
 | [x] => x
 | x :: y :: l => x ++ [44, 32] ++ row (y :: l)
def inP (s : List UInt8) (b : Bool) : List UInt8 := if b then [40] ++ s ++ [41] else s
def mutB (b : Bool) : List UInt8 := if b then [109, 117, 116, 32] else []
mutual
def textT : Ty → List UInt8
 | .mk k life mt _ kids => if k = 1 then [105, 110, 116] else if k = 2 then [98, 111, 120, 32] ++ (textTs kids).headD [] else if k = 3 then [40] ++ row (textTs kids) ++ [41] else [38, 39] ++ bs life ++ [32] ++ mutB mt ++ (textTs kids).headD []
def textTs : List Ty → List (List UInt8)
 | [] => []
 | t :: ts => textT t :: textTs ts
end
/-- an expression's text out of its kids' texts, kinds and strengths -/
def joinE (k num : Int) (name : List UInt8) (mt : Bool) (k0 : Int) (s0 s1 : Nat) (ts : List (List UInt8)) : List UInt8 :=
 if k = 1 then dec num.toNat
 else if k = 2 then name
 else if k = 3 then inP (ts.headD []) (k0 == 4) ++ [46] ++ dec num.toNat
 else if k = 4 then [42] ++ ts.headD []
 else if k = 5 then [38] ++ mutB mt ++ ts.headD []
 else if k = 6 then [98, 111, 120, 32] ++ inP (ts.headD []) (k0 == 8)
 else if k = 8 then inP (ts.headD []) (asideB (strK 8 name) s0 0) ++ [32] ++ name ++ [32] ++ inP ((ts.drop 1).headD []) (asideB (strK 8 name) s1 1)
 else name ++ [40] ++ row ts ++ [41]
def kindAt (i : Nat) (l : List Ex) : Int := ((l.drop i).head?.map Ex.kind).getD 0
def strAt (i : Nat) (l : List Ex) : Nat := ((l.drop i).head?.map Ex.str).getD 0
mutual
def textE : Ex → List UInt8
 | .mk k num name mt _ kids => joinE k num (bs name) mt (kindAt 0 kids) (strAt 0 kids) (strAt 1 kids) (textEs kids)
def textEs : List Ex → List (List UInt8)
 | [] => []
 | t :: ts => textE t :: textEs ts
end
mutual
def textS (tabs : List UInt8) : St → List UInt8
 | .mk k name place expr _ thn _ els =>
  if k = 1 then tabs ++ [108, 101, 116, 32] ++ bs name ++ [32, 61, 32] ++ textE expr ++ [59, 10]
  else if k = 2 then tabs ++ textE place ++ [32, 61, 32] ++ textE expr ++ [59, 10]
  else if k = 3 then tabs ++ [105, 102, 32] ++ textE expr ++ [32, 123, 10] ++ textSs (tabs ++ [9]) thn ++ tabs ++ [125, 32, 101, 108, 115, 101, 32, 123, 10] ++ textSs (tabs ++ [9]) els ++ tabs ++ [125, 10]
  else tabs ++ [114, 101, 112, 101, 97, 116, 32] ++ textE expr ++ [32, 123, 10] ++ textSs (tabs ++ [9]) thn ++ tabs ++ [125, 10]
def textSs (tabs : List UInt8) : List St → List UInt8
 | [] => []
 | t :: ts => textS tabs t ++ textSs tabs ts
end
def lifeB (s : ByteArray) : List UInt8 := [39] ++ bs s
def textPa (p : Pa) : List UInt8 := bs p.name ++ [58, 32] ++ textT p.type
def pairs : List ByteArray → List (List UInt8)
 | a :: b :: l => (lifeB a ++ [58, 32] ++ lifeB b) :: pairs l
 | _ => []
def textF (f : Fn) : List UInt8 :=
 [102, 110, 32] ++ bs f.name ++ (if f.lives.length = 0 then [] else [91] ++ row (f.lives.map lifeB) ++ [93]) ++ [40] ++ row (f.pars.map textPa) ++ [41, 32, 45, 62, 32] ++ textT f.gives
  ++ (if f.outs.length = 0 then [] else [32, 119, 104, 101, 114, 101, 32] ++ row (pairs f.outs)) ++ [32, 123, 10] ++ textSs [9] f.body ++ [9, 114, 101, 116, 32] ++ textE f.value ++ [59, 10, 125, 10]
def textFs : List Fn → List UInt8
 | [] => []
 | f :: fs => textF f ++ textFs fs

/-! ### How many parts, as the document's answer counts -/
mutual
def sizeT : Ty → Nat
 | .mk _ life _ _ kids => sizeTs (1 + life.size / 100) kids
def sizeTs : Nat → List Ty → Nat
 | n, [] => n
 | n, t :: ts => if 400 < n then n else sizeTs (n + sizeT t) ts
end
mutual
def sizeE : Ex → Nat
 | .mk _ _ name _ _ kids => sizeEs (1 + name.size / 100) kids
def sizeEs : Nat → List Ex → Nat
 | n, [] => n
 | n, t :: ts => if 400 < n then n else sizeEs (n + sizeE t) ts
end
mutual
def sizeS : St → Nat
 | .mk _ name place expr _ thn _ els => 1 + name.size / 100 + sizeE place + sizeE expr + sizeSs 0 thn + sizeSs 0 els
def sizeSs : Nat → List St → Nat
 | n, [] => n
 | n, t :: ts => if 400 < n then n else sizeSs (n + sizeS t) ts
end
def sizePas : Nat → List Pa → Nat
 | n, [] => n
 | n, p :: ps => if 400 < n then n else sizePas (n + (p.name.size / 100 + sizeT p.type)) ps
def sizeNs : Nat → List ByteArray → Nat
 | n, [] => n
 | n, s :: l => if 400 < n then n else sizeNs (n + s.size / 100) l
def sizeF (n : Nat) (f : Fn) : Nat :=
 sizeNs (sizeNs (sizePas (n + (1 + f.name.size / 100 + f.lives.length + f.outs.length + sizeT f.gives + sizeSs 0 f.body + sizeE f.value)) f.pars) f.lives) f.outs
def sizeFs : Nat → List Fn → Nat
 | n, [] => n
 | n, f :: fs => if 400 < n then n else sizeFs (sizeF n f) fs

end Go.Proofs.YtemflcojebanlaaGreatDoor.TreeP
/- Trees of types, expressions, statements and functions, as they lie in memory; their weights. No program is imported. -/
namespace Go.Proofs.YtemflcojebanlaaGreatDoor.TreeP
open Go Go.RowKit LexP

def Ty.cells : Ty → List Value | .mk k l m v _ => [.int .i64 k, .string l, .bool m, v]
def Ty.val (t : Ty) : Value := .agg t.cells.toArray
def Ex.cells : Ex → List Value | .mk k n s m v _ => [.int .i64 k, .int .i64 n, .string s, .bool m, v]
def Ex.val (t : Ex) : Value := .agg t.cells.toArray
def St.cells : St → List Value | .mk k n p e tv _ ev _ => [.int .i64 k, .string n] ++ p.cells ++ e.cells ++ [tv, ev]
def St.val (t : St) : Value := .agg t.cells.toArray
def Pa.cells (p : Pa) : List Value := [.string p.name] ++ p.type.cells
def Pa.val (t : Pa) : Value := .agg t.cells.toArray
def Fn.cells (f : Fn) : List Value := [.string f.name, f.livesV, f.parsV] ++ f.gives.cells ++ [f.outsV, f.bodyV] ++ f.value.cells
def Fn.val (t : Fn) : Value := .agg t.cells.toArray

theorem Ty.val_mk (k : Int) (l : ByteArray) (m : Bool) (v : Value) (kids : List Ty) : (Ty.mk k l m v kids).val = .agg #[.int .i64 k, .string l, .bool m, v] := rfl
theorem Ex.val_mk (k n : Int) (s : ByteArray) (m : Bool) (v : Value) (kids : List Ex) : (Ex.mk k n s m v kids).val = .agg #[.int .i64 k, .int .i64 n, .string s, .bool m, v] := rfl
/-- a slice that is in memory: its elements, of so many cells each, hold these cells -/
def Lies (w : World) (size : Nat) (v : Value) (xs : List (List Value)) : Prop :=
 ∃ p cap, v = .slice p xs.length cap ∧ xs.length ≤ cap ∧ (xs ≠ [] → ∃ b off, p = some ⟨b, off, none⟩ ∧ ∀ (i : Nat) (c : List Value), xs[i]? = some c → ∀ (j : Nat) (u : Value), c[j]? = some u → w.cell? ⟨b, off + i * size + j, none⟩ = some u)
theorem Lies.keep {w w' : World} {size : Nat} {v : Value} {xs : List (List Value)} (h : Lies w size v xs) (k : ∀ b o u, w.cell? ⟨b, o, none⟩ = some u → w'.cell? ⟨b, o, none⟩ = some u) : Lies w' size v xs := by
 obtain ⟨p, cap, h1, h2, h3⟩ := h
 refine ⟨p, cap, h1, h2, fun hne => ?_⟩
 obtain ⟨b, off, h4, h5⟩ := h3 hne
 exact ⟨b, off, h4, fun i c hi j u hj => k _ _ _ (h5 i c hi j u hj)⟩
/-- what reads in the one world reads in the other one -/
def Keeps (w w' : World) : Prop := ∀ b o u, w.cell? ⟨b, o, none⟩ = some u → w'.cell? ⟨b, o, none⟩ = some u
theorem Keeps.of_below {w w' : World} (h : Below w.heap.size w w') : Keeps w w' := fun b o _ hc => by
 have hlt : b < w.heap.size := World.block_lt_of_cell? w _ hc
 exact (h.cell (p := ⟨b, o, none⟩) hlt).trans hc
theorem Keeps.trans {a b c : World} (h : Keeps a b) (k : Keeps b c) : Keeps a c := fun _ _ _ hc => k _ _ _ (h _ _ _ hc)
theorem Keeps.refl (w : World) : Keeps w w := fun _ _ _ h => h
theorem Keeps.drewN (w : World) (n : Nat) : Keeps w (w.drewN n) := fun _ _ _ h => h
theorem Keeps.alloc (w : World) (o : Obj) : Keeps w (w.alloc o) := Keeps.of_below ((Below.refl _ _).alloc (Nat.le_refl _) _)

mutual
def Ty.In (w : World) : Ty → Prop
 | .mk _ _ _ v kids => Lies w 4 v (kids.map Ty.cells) ∧ Ty.Ins w kids
def Ty.Ins (w : World) : List Ty → Prop
 | [] => True
 | t :: ts => t.In w ∧ Ty.Ins w ts
end
mutual
def Ex.In (w : World) : Ex → Prop
 | .mk _ num _ _ v kids => (-9223372036854775808 ≤ num ∧ num ≤ 9223372036854775807) ∧ Lies w 5 v (kids.map Ex.cells) ∧ Ex.Ins w kids
def Ex.Ins (w : World) : List Ex → Prop
 | [] => True
 | t :: ts => t.In w ∧ Ex.Ins w ts
end
mutual
def St.In (w : World) : St → Prop
 | .mk _ _ place expr tv thn ev els => place.In w ∧ expr.In w ∧ Lies w 14 tv (thn.map St.cells) ∧ St.Ins w thn ∧ Lies w 14 ev (els.map St.cells) ∧ St.Ins w els
def St.Ins (w : World) : List St → Prop
 | [] => True
 | t :: ts => t.In w ∧ St.Ins w ts
end
def nmCells (s : ByteArray) : List Value := [.string s]
def Pa.In (w : World) (p : Pa) : Prop := p.type.In w
def Fn.In (w : World) (f : Fn) : Prop :=
 Lies w 1 f.livesV (f.lives.map nmCells) ∧ (Lies w 5 f.parsV (f.pars.map Pa.cells) ∧ ∀ p ∈ f.pars, p.In w) ∧ f.gives.In w ∧ Lies w 1 f.outsV (f.outs.map nmCells) ∧ (Lies w 14 f.bodyV (f.body.map St.cells) ∧ St.Ins w f.body) ∧ f.value.In w
def ProgIn (w : World) (v : Value) (p : List Fn) : Prop := Lies w 14 v (p.map Fn.cells) ∧ ∀ f ∈ p, f.In w

theorem Ty.ins_iff (w : World) : ∀ l : List Ty, Ty.Ins w l ↔ ∀ t ∈ l, t.In w
 | [] => by simp [Ty.Ins]
 | t :: ts => by simp [Ty.Ins, Ty.ins_iff w ts]
theorem Ex.ins_iff (w : World) : ∀ l : List Ex, Ex.Ins w l ↔ ∀ t ∈ l, t.In w
 | [] => by simp [Ex.Ins]
 | t :: ts => by simp [Ex.Ins, Ex.ins_iff w ts]
theorem St.ins_iff (w : World) : ∀ l : List St, St.Ins w l ↔ ∀ t ∈ l, t.In w
 | [] => by simp [St.Ins]
 | t :: ts => by simp [St.Ins, St.ins_iff w ts]

mutual
theorem Ty.In.keep {w w' : World} (k : Keeps w w') : ∀ t : Ty, t.In w → t.In w'
 | .mk _ _ _ _ kids, h => by
  rw [Ty.In] at h ⊢
  exact ⟨h.1.keep k, Ty.Ins.keep k kids h.2⟩
theorem Ty.Ins.keep {w w' : World} (k : Keeps w w') : ∀ l : List Ty, Ty.Ins w l → Ty.Ins w' l
 | [], _ => by simp [Ty.Ins]
 | t :: ts, h => by
  rw [Ty.Ins] at h ⊢
  exact ⟨Ty.In.keep k t h.1, Ty.Ins.keep k ts h.2⟩
end
mutual
theorem Ex.In.keep {w w' : World} (k : Keeps w w') : ∀ t : Ex, t.In w → t.In w'
 | .mk _ _ _ _ _ kids, h => by
  rw [Ex.In] at h ⊢
  exact ⟨h.1, h.2.1.keep k, Ex.Ins.keep k kids h.2.2⟩
theorem Ex.Ins.keep {w w' : World} (k : Keeps w w') : ∀ l : List Ex, Ex.Ins w l → Ex.Ins w' l
 | [], _ => by simp [Ex.Ins]
 | t :: ts, h => by
  rw [Ex.Ins] at h ⊢
  exact ⟨Ex.In.keep k t h.1, Ex.Ins.keep k ts h.2⟩
end
mutual
theorem St.In.keep {w w' : World} (k : Keeps w w') : ∀ t : St, t.In w → t.In w'
 | .mk _ _ place expr _ thn _ els, h => by
  rw [St.In] at h ⊢
  exact ⟨Ex.In.keep k _ h.1, Ex.In.keep k _ h.2.1, h.2.2.1.keep k, St.Ins.keep k thn h.2.2.2.1, h.2.2.2.2.1.keep k, St.Ins.keep k els h.2.2.2.2.2⟩
theorem St.Ins.keep {w w' : World} (k : Keeps w w') : ∀ l : List St, St.Ins w l → St.Ins w' l
 | [], _ => by simp [St.Ins]
 | t :: ts, h => by
  rw [St.Ins] at h ⊢
  exact ⟨St.In.keep k t h.1, St.Ins.keep k ts h.2⟩
end
theorem Fn.In.keep {w w' : World} (k : Keeps w w') {f : Fn} (h : f.In w) : f.In w' :=
 ⟨h.1.keep k, ⟨h.2.1.1.keep k, fun p hp => Ty.In.keep k _ (h.2.1.2 p hp)⟩, Ty.In.keep k _ h.2.2.1, h.2.2.2.1.keep k, ⟨h.2.2.2.2.1.1.keep k, St.Ins.keep k _ h.2.2.2.2.1.2⟩, Ex.In.keep k _ h.2.2.2.2.2⟩
theorem ProgIn.keep {w w' : World} (k : Keeps w w') {v : Value} {p : List Fn} (h : ProgIn w v p) : ProgIn w' v p :=
 ⟨h.1.keep k, fun f hf => (h.2 f hf).keep k⟩

/-! ### Weights -/
mutual
def wT : Ty → Nat | .mk _ life _ _ kids => 5 + life.size + wTs kids
def wTs : List Ty → Nat | [] => 0 | t :: ts => wT t + wTs ts
end
mutual
def wE : Ex → Nat | .mk _ _ name _ _ kids => 6 + name.size + wEs kids
def wEs : List Ex → Nat | [] => 0 | t :: ts => wE t + wEs ts
end
mutual
def wS : St → Nat | .mk _ name place expr _ thn _ els => 5 + name.size + wE place + wE expr + wSs thn + wSs els
def wSs : List St → Nat | [] => 0 | t :: ts => wS t + wSs ts
end
def wPa (p : Pa) : Nat := 2 + p.name.size + wT p.type
def wPas : List Pa → Nat | [] => 0 | p :: ps => wPa p + wPas ps
def wNs : List ByteArray → Nat | [] => 0 | s :: l => 1 + s.size + wNs l
def wF (f : Fn) : Nat := 6 + f.name.size + wNs f.lives + wPas f.pars + wT f.gives + wNs f.outs + wSs f.body + wE f.value
def wFs : List Fn → Nat | [] => 0 | f :: fs => wF f + wFs fs

theorem wTs_get : ∀ (l : List Ty) (i : Nat) (t : Ty), l[i]? = some t → wT t ≤ wTs l
 | [], i, t, h => by simp at h
 | x :: l, 0, t, h => by simp at h; subst h; rw [wTs]; omega
 | x :: l, i + 1, t, h => by have := wTs_get l i t (by simpa using h); rw [wTs]; omega
theorem wEs_get : ∀ (l : List Ex) (i : Nat) (t : Ex), l[i]? = some t → wE t ≤ wEs l
 | [], i, t, h => by simp at h
 | x :: l, 0, t, h => by simp at h; subst h; rw [wEs]; omega
 | x :: l, i + 1, t, h => by have := wEs_get l i t (by simpa using h); rw [wEs]; omega
theorem wSs_get : ∀ (l : List St) (i : Nat) (t : St), l[i]? = some t → wS t ≤ wSs l
 | [], i, t, h => by simp at h
 | x :: l, 0, t, h => by simp at h; subst h; rw [wSs]; omega
 | x :: l, i + 1, t, h => by have := wSs_get l i t (by simpa using h); rw [wSs]; omega
theorem wPas_get : ∀ (l : List Pa) (i : Nat) (t : Pa), l[i]? = some t → wPa t ≤ wPas l
 | [], i, t, h => by simp at h
 | x :: l, 0, t, h => by simp at h; subst h; rw [wPas]; omega
 | x :: l, i + 1, t, h => by have := wPas_get l i t (by simpa using h); rw [wPas]; omega
theorem wNs_get : ∀ (l : List ByteArray) (i : Nat) (t : ByteArray), l[i]? = some t → 1 + t.size ≤ wNs l
 | [], i, t, h => by simp at h
 | x :: l, 0, t, h => by simp at h; subst h; rw [wNs]; omega
 | x :: l, i + 1, t, h => by have := wNs_get l i t (by simpa using h); rw [wNs]; omega
theorem wFs_get : ∀ (l : List Fn) (i : Nat) (t : Fn), l[i]? = some t → wF t ≤ wFs l
 | [], i, t, h => by simp at h
 | x :: l, 0, t, h => by simp at h; subst h; rw [wFs]; omega
 | x :: l, i + 1, t, h => by have := wFs_get l i t (by simpa using h); rw [wFs]; omega
theorem wTs_len : ∀ l : List Ty, l.length * 5 ≤ wTs l
 | [] => by simp [wTs]
 | .mk a b c d e :: l => by have := wTs_len l; rw [wTs, wT, List.length_cons]; omega
theorem wEs_len : ∀ l : List Ex, l.length * 6 ≤ wEs l
 | [] => by simp [wEs]
 | .mk a b c d e f :: l => by have := wEs_len l; rw [wEs, wE, List.length_cons]; omega
theorem wSs_len : ∀ l : List St, l.length * 5 ≤ wSs l
 | [] => by simp [wSs]
 | .mk a b c d e f g h :: l => by have := wSs_len l; rw [wSs, wS, List.length_cons]; omega
theorem wPas_len : ∀ l : List Pa, l.length * 2 ≤ wPas l
 | [] => by simp [wPas]
 | p :: l => by have := wPas_len l; rw [wPas, wPa, List.length_cons]; omega
theorem wNs_len : ∀ l : List ByteArray, l.length ≤ wNs l
 | [] => by simp [wNs]
 | p :: l => by have := wNs_len l; rw [wNs, List.length_cons]; omega
theorem wFs_len : ∀ l : List Fn, l.length * 6 ≤ wFs l
 | [] => by simp [wFs]
 | p :: l => by have := wFs_len l; rw [wFs, wF, List.length_cons]; omega

/-- A slice that lies, opened at an index. -/
theorem Lies.at {w : World} {size : Nat} {v : Value} {xs : List (List Value)} (h : Lies w size v xs) {i : Nat} (hi : i < xs.length) :
  ∃ b off cap, v = .slice (some ⟨b, off, none⟩) xs.length cap ∧ xs.length ≤ cap ∧ ∀ (i : Nat) (c : List Value), xs[i]? = some c → ∀ (j : Nat) (u : Value), c[j]? = some u → w.cell? ⟨b, off + i * size + j, none⟩ = some u := by
 obtain ⟨p, cap, h1, h2, h3⟩ := h
 obtain ⟨b, off, rfl, h5⟩ := h3 (fun e => by rw [e] at hi; simp at hi)
 exact ⟨b, off, cap, h1, h2, h5⟩
end Go.Proofs.YtemflcojebanlaaGreatDoor.TreeP
/- Runes and bytes: a range over a string, asked by a test on runes, goes as far as a test on bytes says. -/
namespace Go.Proofs.YtemflcojebanlaaGreatDoor.LexP
open Go Go.Lib

/-- where a range over a string stops: so many rounds at the most, from a place on -/
def spanFrom (p : Nat → Bool) (s : ByteArray) : Nat → Nat → Nat
 | 0, _ => s.size
 | f + 1, pos => if pos < s.size then (if p (Utf8.decode s pos).1 = true then spanFrom p s f (pos + (Utf8.decode s pos).2) else pos) else s.size
theorem spanFrom_end (p : Nat → Bool) (s : ByteArray) (f pos : Nat) (h : ¬ pos < s.size) : spanFrom p s f pos = s.size := by cases f <;> simp [spanFrom, h]

theorem span_steps (q : UInt8 → Bool) (l : List UInt8) : ∀ (k pos : Nat), (∀ j, pos ≤ j → j < pos + k → ∃ c, l[j]? = some c ∧ q c = true) → span q (l.drop pos) = k + span q (l.drop (pos + k))
 | 0, pos, _ => by simp
 | k + 1, pos, h => by
  obtain ⟨c, hc, hq⟩ := h pos (Nat.le_refl _) (by omega)
  have hlt : pos < l.length := (List.getElem?_eq_some_iff.1 hc).1
  have e : l.drop pos = c :: l.drop (pos + 1) := by
   rw [List.drop_eq_getElem_cons hlt]
   congr 1
   have := (List.getElem?_eq_some_iff.1 hc).2
   exact this
  rw [e, span_cons_t _ _ _ hq, span_steps q l k (pos + 1) (fun j h1 h2 => h j (by omega) (by omega))]
  rw [show pos + 1 + k = pos + (k + 1) by omega]
  omega
theorem span_stop (q : UInt8 → Bool) (l : List UInt8) (pos : Nat) (c : UInt8) (hc : l[pos]? = some c) (hq : q c = false) : span q (l.drop pos) = 0 := by
 have hlt : pos < l.length := (List.getElem?_eq_some_iff.1 hc).1
 rw [List.drop_eq_getElem_cons hlt, (List.getElem?_eq_some_iff.1 hc).2, span_cons_f _ _ _ hq]

/-- a test on runes that goes as a test on bytes does -/
def Goes (p : Nat → Bool) (q : UInt8 → Bool) : Prop := ∀ (s : ByteArray) (pos : Nat), pos < s.size →
 (p (Utf8.decode s pos).1 = true → ∀ j, pos ≤ j → j < pos + (Utf8.decode s pos).2 → ∃ c, s.data.toList[j]? = some c ∧ q c = true) ∧
 (p (Utf8.decode s pos).1 = false → ∃ c, s.data.toList[pos]? = some c ∧ q c = false)

theorem spanFrom_eq {p : Nat → Bool} {q : UInt8 → Bool} (h : Goes p q) (s : ByteArray) : ∀ (f pos : Nat), pos ≤ s.size → s.size ≤ pos + f → spanFrom p s f pos = pos + span q (s.data.toList.drop pos)
 | 0, pos, h1, h2 => by
  have : pos = s.size := by omega
  subst this
  have e : s.data.toList.drop s.size = [] := List.drop_eq_nil_of_le (by rw [Lib.size_eq]; exact Nat.le_refl _)
  simp [spanFrom, e, span]
 | f + 1, pos, h1, h2 => by
  by_cases hp : pos < s.size
  ·have g := h s pos hp
   have hw := Lib.width_pos s pos
   simp only [spanFrom, hp, if_true]
   cases e : p (Utf8.decode s pos).1 with
   | true =>
    have g1 := g.1 e
    have st := span_steps q s.data.toList (Utf8.decode s pos).2 pos g1
    obtain ⟨c, hc, _⟩ := g1 (pos + (Utf8.decode s pos).2 - 1) (by omega) (by omega)
    have hlt : pos + (Utf8.decode s pos).2 - 1 < s.data.toList.length := (List.getElem?_eq_some_iff.1 hc).1
    rw [← Lib.size_eq] at hlt
    rw [if_pos rfl, spanFrom_eq h s f _ (by omega) (by omega), st]
    omega
   | false =>
    obtain ⟨c, hc, hq⟩ := g.2 e
    rw [if_neg (by simp), span_stop q _ _ c hc hq]
    omega
  ·have : pos = s.size := by omega
   subst this
   have e : s.data.toList.drop s.size = [] := List.drop_eq_nil_of_le (by rw [Lib.size_eq]; exact Nat.le_refl _)
   rw [spanFrom_end _ _ _ _ hp, e]
   simp [span]

theorem get_some (s : ByteArray) (i : Nat) (h : i < s.size) : s.data.toList[i]? = some (s.get! i) := by
 have hl : i < s.data.toList.length := by rw [← Lib.size_eq]; exact h
 rw [List.getElem?_eq_getElem hl]
 congr 1
 have : s.get! i = s[i]'h := by simp [ByteArray.get!, getElem!_pos, h]; rfl
 rw [this]
 simp [ByteArray.getElem_eq_getElem_data]

theorem decodeN_cases (n b0 b1 b2 b3 : Nat) (h0 : b0 < 256) : 1 ≤ n →
  (b0 < 128 ∧ decodeN n b0 b1 b2 b3 = (b0, 1)) ∨
  (128 ≤ b0 ∧ 128 ≤ (decodeN n b0 b1 b2 b3).1 ∧ (decodeN n b0 b1 b2 b3).2 ≤ n ∧ (decodeN n b0 b1 b2 b3).2 ≤ 4 ∧ (1 < (decodeN n b0 b1 b2 b3).2 → 128 ≤ b1) ∧ (2 < (decodeN n b0 b1 b2 b3).2 → 128 ≤ b2) ∧ (3 < (decodeN n b0 b1 b2 b3).2 → 128 ≤ b3)) := by
 intro hn
 unfold decodeN
 repeat' split
 all_goals first | (left; exact ⟨by assumption, rfl⟩) | (right; simp only; omega)

theorem goes_rem : Goes (fun r => r != 10) inRem := by
 intro s pos hp
 rw [Lib.decode_at]
 have key := decodeN_cases (s.size - pos) (s.get! pos).toNat (s.get! (pos + 1)).toNat (s.get! (pos + 2)).toNat (s.get! (pos + 3)).toNat (UInt8.toNat_lt _) (by omega)
 generalize decodeN (s.size - pos) (s.get! pos).toNat (s.get! (pos + 1)).toNat (s.get! (pos + 2)).toNat (s.get! (pos + 3)).toNat = d at *
 rcases key with ⟨ha, hd⟩ | ⟨ha, hr, hn, h4, k1, k2, k3⟩
 ·subst hd
  refine ⟨fun hq j h1 h2 => ?_, fun hq => ?_⟩
  ·obtain rfl : j = pos := by simp only at h2; omega
   exact ⟨_, get_some s _ hp, by simpa [inRem] using hq⟩
  ·exact ⟨_, get_some s pos hp, by simpa [inRem] using hq⟩
 ·refine ⟨fun _ j h1 h2 => ?_, fun hq => ?_⟩
  ·refine ⟨_, get_some s j (by omega), ?_⟩
   have hb : 128 ≤ (s.get! j).toNat := by
    rcases (show j = pos ∨ j = pos + 1 ∨ j = pos + 2 ∨ j = pos + 3 by omega) with rfl | rfl | rfl | rfl
    ·exact ha
    ·exact k1 (by omega)
    ·exact k2 (by omega)
    ·exact k3 (by omega)
   simp only [inRem, bne_iff_ne, ne_eq]
   omega
  ·simp at hq
   omega

/-- a test that lets runes below 128 alone -/
theorem goes_ascii (p : Nat → Bool) (q : UInt8 → Bool) (hp : ∀ r, p r = true → r < 128) (hq : ∀ c, q c = true → c.toNat < 128) (h : ∀ c : UInt8, c.toNat < 128 → p c.toNat = q c) : Goes p q := by
 intro s pos hlt
 rw [Lib.decode_at]
 have key := decodeN_cases (s.size - pos) (s.get! pos).toNat (s.get! (pos + 1)).toNat (s.get! (pos + 2)).toNat (s.get! (pos + 3)).toNat (UInt8.toNat_lt _) (by omega)
 generalize decodeN (s.size - pos) (s.get! pos).toNat (s.get! (pos + 1)).toNat (s.get! (pos + 2)).toNat (s.get! (pos + 3)).toNat = d at *
 rcases key with ⟨ha, hd⟩ | ⟨ha, hr, hn, h4, k1, k2, k3⟩
 ·subst hd
  refine ⟨fun e j h1 h2 => ?_, fun e => ?_⟩
  ·obtain rfl : j = pos := by simp only at h2; omega
   exact ⟨_, get_some s _ hlt, by rw [← h _ ha]; exact e⟩
  ·exact ⟨_, get_some s pos hlt, by rw [← h _ ha]; exact e⟩
 ·refine ⟨fun e => ?_, fun _ => ⟨_, get_some s pos hlt, ?_⟩⟩
  ·have := hp _ e
   omega
  ·cases e : q (s.get! pos) with
   | false => rfl
   | true => have := hq _ e; omega

def rBl (r : Nat) : Bool := r == 32 || r == 9 || r == 10
def rDig (r : Nat) : Bool := 48 ≤ r && r ≤ 57
def rLet (r : Nat) : Bool := (97 ≤ r && r ≤ 122) || (65 ≤ r && r ≤ 90) || r == 95
def rWd (r : Nat) : Bool := rLet r || rDig r
theorem goes_bl : Goes rBl isBl := goes_ascii _ _ (fun r h => by simp [rBl] at h; omega) (fun c h => by simp [isBl] at h; omega) (fun _ _ => rfl)
theorem goes_dig : Goes rDig isDig := goes_ascii _ _ (fun r h => by simp [rDig] at h; omega) (fun c h => by simp [isDig] at h; omega) (fun _ _ => rfl)
theorem goes_wd : Goes rWd inWd := goes_ascii _ _ (fun r h => by simp [rWd, rLet, rDig] at h; omega) (fun c h => by simp [inWd, isLet, isDig] at h; omega) (fun _ _ => rfl)
end Go.Proofs.YtemflcojebanlaaGreatDoor.LexP
/- Contracts of the lexer's tests on runes, and of span: how far a text's bytes are in a set. -/
namespace Go.Proofs.YtemflcojebanlaaGreatDoor.LexC
open Go Go.RowKit Go.Lib LexP

theorem hid {p : Prop} (h : p) : Hid p := h
theorem below_of_eq {B : Nat} {w w' : World} (h : w = w') : Below B w w' := h ▸ Below.refl _ _
theorem ret_bool {a b : Bool} (h : a = b) : Ending.returned (.bool a) = .returned (.bool b) := by rw [h]
theorem ret_int {k : IntKind} {a b : Int} (h : a = b) : Ending.returned (.int k a) = .returned (.int k b) := by rw [h]

set_option maxHeartbeats 400000 in
theorem isBlank_any (r : Nat) (w : World) : Calls Tryz.prog 136 #[.int .i32 (r : Int)] w fun e w' => e = .returned (.bool (rBl r)) ∧ w = w' := by
 go_enter Tryz.func136, Tryz.ntmps136
 go_wp2
 all_goals go_ret
 all_goals refine ⟨ret_bool ?_, rfl⟩
 all_goals (rw [Bool.eq_iff_iff]; simp [rBl]; omega)
set_option maxHeartbeats 400000 in
theorem inRemark_any (r : Nat) (w : World) : Calls Tryz.prog 138 #[.int .i32 (r : Int)] w fun e w' => e = .returned (.bool (r != 10)) ∧ w = w' := by
 go_enter Tryz.func138, Tryz.ntmps138
 go_wp2
 go_ret
 refine ⟨ret_bool ?_, rfl⟩
 rw [Bool.eq_iff_iff]; simp; omega
set_option maxHeartbeats 400000 in
theorem isDigit_any (r : Nat) (w : World) : Calls Tryz.prog 149 #[.int .i32 (r : Int)] w fun e w' => e = .returned (.bool (rDig r)) ∧ w = w' := by
 go_enter Tryz.func149, Tryz.ntmps149
 go_wp2
 all_goals go_ret
 all_goals refine ⟨ret_bool ?_, rfl⟩
 all_goals (rw [Bool.eq_iff_iff]; simp [rDig]; omega)
set_option maxHeartbeats 400000 in
theorem isLetter_any (r : Nat) (w : World) : Calls Tryz.prog 156 #[.int .i32 (r : Int)] w fun e w' => e = .returned (.bool (rLet r)) ∧ w = w' := by
 go_enter Tryz.func156, Tryz.ntmps156
 go_wp2
 all_goals go_ret
 all_goals refine ⟨ret_bool ?_, rfl⟩
 all_goals (rw [Bool.eq_iff_iff]; simp [rLet]; omega)
set_option maxHeartbeats 400000 in
theorem inWord_any (r : Nat) (w : World) : Calls Tryz.prog 148 #[.int .i32 (r : Int)] w fun e w' => e = .returned (.bool (rWd r)) ∧ w = w' := by
 have c1 := isLetter_any r
 have c2 := isDigit_any r
 unfold rWd
 generalize rLet r = a at *
 generalize rDig r = b at *
 have H1 := hid c1
 have H2 := hid c2
 clear c1 c2
 cases a with
 | true =>
  go_enter Tryz.func148, Tryz.ntmps148
  go_wp2_with (go_at_call 156; refine (H1.out _).mono ?_; rintro e w' ⟨rfl, rfl⟩)
  go_ret
  exact ⟨rfl, rfl⟩
 | false =>
  go_enter Tryz.func148, Tryz.ntmps148
  go_wp2_with (first | (go_at_call 156; refine (H1.out _).mono ?_; rintro e w' ⟨rfl, rfl⟩) | (go_at_call 149; refine (H2.out _).mono ?_; rintro e w' ⟨rfl, rfl⟩))
  go_ret
  exact ⟨rfl, rfl⟩

/-- A test on runes, handed on as a function value. -/
def Tests (g : Nat) (p : Nat → Bool) : Prop := (∀ args w, (callFunc g args).run Tryz.prog w = .ok (.enter g args) w) ∧ ∀ (r : Nat) (w : World), Calls Tryz.prog g #[.int .i32 (r : Int)] w fun e w' => e = .returned (.bool (p r)) ∧ w = w'
theorem tests_bl : Tests 136 rBl := ⟨enters_of Tryz.func136 (by kernel_rfl) rfl, isBlank_any⟩
theorem tests_rem : Tests 138 (fun r => r != 10) := ⟨enters_of Tryz.func138 (by kernel_rfl) rfl, inRemark_any⟩
theorem tests_dig : Tests 149 rDig := ⟨enters_of Tryz.func149 (by kernel_rfl) rfl, isDigit_any⟩
theorem tests_wd : Tests 148 rWd := ⟨enters_of Tryz.func148 (by kernel_rfl) rfl, inWord_any⟩

set_option maxHeartbeats 2000000 in
set_option maxRecDepth 1000000 in
theorem span_from (g : Nat) (p : Nat → Bool) (T : Tests g p) (s : ByteArray) (w : World) :
  Calls Tryz.prog 135 #[.string s, .func (.func g) #[] #[]] w fun e w' => e = .returned (.int .i64 ((spanFrom p s s.size 0 : Nat) : Int)) ∧ Below w.heap.size w w' := by
 obtain ⟨eg, hp⟩ := T
 go_enter Tryz.func135, Tryz.ntmps135
 go_wp2
 go_loopg [] s.size (fun gf wx => ∃ pos : Nat, wx.heap[w.heap.size]? = some (.stringIter s pos) ∧ Below w.heap.size w wx ∧ spanFrom p s gf pos = spanFrom p s s.size 0 ∧ s.size ≤ pos + gf)
 case atStart => exact ⟨0, World.iter_heap w s 0, (Below.refl _ w).alloc (Nat.le_refl _) _, rfl, by omega⟩
 case round =>
  obtain ⟨pos, hit, hbw, hleft, hfu⟩ := hrel
  by_cases hps : pos < s.size
  ·obtain ⟨g', rfl⟩ : ∃ g', gk = g' + 1 := ⟨gk - 1, by omega⟩
   have hnx : ∀ ty, (Instr.next (.pointer (some ⟨w.heap.size, 0, none⟩)) true ty).run Tryz.prog wr = _ := fun ty => Lib.run_next_any_at wr w.heap.size s pos ty hit hps
   have hwd := Lib.width_pos s pos
   obtain ⟨R, hR⟩ : ∃ R, (Utf8.decode s pos).1 = R := ⟨_, rfl⟩
   obtain ⟨K, hK⟩ : ∃ K, (Utf8.decode s pos).2 = K := ⟨_, rfl⟩
   simp only [spanFrom, hps, if_true, hR, hK] at hleft
   rw [hR, hK] at hnx
   rw [hK] at hwd
   have hit2 := Lib.iterAt_heap wr w.heap.size s pos (pos + K) hit
   have hbw2 := Lib.below_iterAt hbw (k := w.heap.size) (Nat.le_refl _) s (pos + K)
   obtain ⟨W, hWd⟩ : ∃ W, wr.iterAt w.heap.size s (pos + K) = W := ⟨_, rfl⟩
   rw [hWd] at hnx hit2 hbw2
   have cS := hp R W
   clear hp
   cases hsp : p R <;> rw [hsp] at cS <;> simp only [hsp, if_true, Bool.false_eq_true, if_false] at hleft
   ·go_wp2_with (go_at_fn g; refine cS.mono ?_; rintro e W' ⟨rfl, rfl⟩)
    go_ret
    exact ⟨by rw [← hleft] <;> rfl, hbw2⟩
   ·go_wp2_with (go_at_fn g; refine cS.mono ?_; rintro e W' ⟨rfl, rfl⟩)
    go_roundg g'
    case measure => omega
    case rel => exact ⟨pos + K, hit2, hbw2, hleft, by omega⟩
  ·have hnx : ∀ ty, (Instr.next (.pointer (some ⟨w.heap.size, 0, none⟩)) true ty).run Tryz.prog wr = _ := fun ty => Lib.run_next_end_at wr w.heap.size s pos ty hit hps
   rw [spanFrom_end p s gk pos hps] at hleft
   have HL := hid hleft
   clear hleft
   go_wp2
   go_ret
   exact ⟨ret_int (by rw [← HL.out]), hbw⟩
/-- span(s, in): so many bytes at the beginning are in the set. -/
theorem span_any (g : Nat) (p : Nat → Bool) (q : UInt8 → Bool) (T : Tests g p) (G : Goes p q) (s : ByteArray) (w : World) :
  Calls Tryz.prog 135 #[.string s, .func (.func g) #[] #[]] w fun e w' => e = .returned (.int .i64 ((span q s.data.toList : Nat) : Int)) ∧ Below w.heap.size w w' := by
 have h := span_from g p T s w
 rw [spanFrom_eq G s s.size 0 (Nat.zero_le _) (by omega)] at h
 simpa using h
end Go.Proofs.YtemflcojebanlaaGreatDoor.LexC
