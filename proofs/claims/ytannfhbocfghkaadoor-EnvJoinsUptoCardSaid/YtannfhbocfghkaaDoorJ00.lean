/- Texts joined: EnvPure, EnvRange, Shelf. -/
import Derived.Below
import Derived.Lib.Bytealg
import Derived.Lib.Small
import Derived.RangeFuncNested
import Derived.RangeFuncCalls
import Derived.RangeFuncLeaves
import Derived.RangeFuncBox
import Derived.Shelf.Small.Strs
import Derived.Shelf.Small.Wraps
import Derived.Shelf.Slices.Equal
import Derived.Ground.Names2Prog
import Derived.Shelf.Slices.Clone
import Derived.Shelf.Slices.SearchI
import Derived.Shelf.Slices.Empties2
import Derived.Ground.SlgnProg
import Derived.Shelf.SlicesE.Clone
import Derived.Test.YtannfhbocfghkaaDoorProg
/- The plain mathematics of layer 5 (env): places, loans, types with loans, environments; the orders, what is right, fits, is at most, is hit. No program is imported. -/
namespace Go.Proofs.YtannfhbocfghkaaDoor.EnvP
open Go

abbrev bs (s : ByteArray) : List UInt8 := s.data.toList
structure Pl where
  var : ByteArray
  sv : Value
  steps : List Int
structure Ln where
  life : ByteArray
  pl : Pl
  mt : Bool
inductive ETy where
  | mk (kind : Int) (mt gone : Bool) (lv : Value) (loans : List Ln) (kv : Value) (kids : List ETy)
structure Bd where
  name : ByteArray
  ty : ETy
def ETy.kind : ETy → Int | .mk k _ _ _ _ _ _ => k
def ETy.mt : ETy → Bool | .mk _ m _ _ _ _ _ => m
def ETy.gone : ETy → Bool | .mk _ _ g _ _ _ _ => g
def ETy.lv : ETy → Value | .mk _ _ _ v _ _ _ => v
def ETy.loans : ETy → List Ln | .mk _ _ _ _ l _ _ => l
def ETy.kv : ETy → Value | .mk _ _ _ _ _ v _ => v
def ETy.kids : ETy → List ETy | .mk _ _ _ _ _ _ l => l

/-! ### Orders -/
def cmpI (a b : Int) : Int := Lib.compareInt a b
def cmpU (a b : UInt8) : Int := if a < b then -1 else if b < a then 1 else 0
def lexC {α : Type} (c : α → α → Int) : List α → List α → Int
  | [], [] => 0
  | [], _ :: _ => -1
  | _ :: _, [] => 1
  | a :: x, b :: y => if c a b = 0 then lexC c x y else c a b
def orI (a b : Int) : Int := if a = 0 then b else a
def oneI (a : Bool) : Int := if a then 1 else 0
def cmpS (a b : ByteArray) : Int := Lib.compareBytes (bs a) (bs b)
def cmpLn (a b : Ln) : Int := orI (cmpS a.life b.life) (orI (cmpS a.pl.var b.pl.var) (orI (lexC cmpI a.pl.steps b.pl.steps) (cmpI (oneI a.mt) (oneI b.mt))))
/-- are two loans alike? -/
def sameLn (a b : Ln) : Bool := bs a.life == bs b.life && bs a.pl.var == bs b.pl.var && a.pl.steps == b.pl.steps && a.mt == b.mt

structure GoodC {α : Type} (c : α → α → Int) (e : α → α → Prop) : Prop where
  rng : ∀ a b, c a b = -1 ∨ c a b = 0 ∨ c a b = 1
  anti : ∀ a b, c b a = -c a b
  zero : ∀ a b, c a b = 0 ↔ e a b
  trans : ∀ a b d, c a b = -1 → c b d = -1 → c a d = -1
  congr : ∀ a b d, c a b = 0 → c a d = c b d

theorem good_cmpI : GoodC cmpI (· = ·) := by
  refine ⟨?_, ?_, ?_, ?_, ?_⟩ <;> intros <;> unfold cmpI Lib.compareInt at * <;> repeat' split at *
  all_goals first | omega | (simp_all; done) | (subst_vars; omega)
theorem good_cmpU : GoodC cmpU (· = ·) := by
  have e : ∀ a b : UInt8, cmpU a b = cmpI a.toNat b.toNat := by
    intro a b
    unfold cmpU cmpI Lib.compareInt
    simp only [UInt8.lt_iff_toNat_lt, gt_iff_lt, Int.ofNat_lt]
  refine ⟨fun a b => by rw [e]; exact good_cmpI.rng _ _, fun a b => by rw [e, e]; exact good_cmpI.anti _ _, fun a b => ?_, fun a b d => by rw [e, e, e]; exact good_cmpI.trans _ _ _, fun a b d => by rw [e, e, e]; exact good_cmpI.congr _ _ _⟩
  rw [e, good_cmpI.zero, ← UInt8.toNat_inj]
  omega
theorem good_lex {α : Type} {c : α → α → Int} (h : GoodC c (· = ·)) : GoodC (lexC c) (· = ·) := by
  have anti : ∀ a b, lexC c b a = -lexC c a b := by
    intro a
    induction a with
    | nil => intro b; cases b <;> simp [lexC]
    | cons x a ih =>
      intro b
      cases b with
      | nil => simp [lexC]
      | cons y b =>
        simp only [lexC]
        have := h.anti x y
        by_cases h0 : c x y = 0
        · rw [if_pos h0, if_pos (by omega), ih]
        · rw [if_neg h0, if_neg (by omega), this]
  have zero : ∀ a b, lexC c a b = 0 ↔ a = b := by
    intro a
    induction a with
    | nil => intro b; cases b <;> simp [lexC]
    | cons x a ih =>
      intro b
      cases b with
      | nil => simp [lexC]
      | cons y b =>
        simp only [lexC]
        by_cases h0 : c x y = 0
        · rw [if_pos h0, ih]
          have := (h.zero x y).1 h0
          simp [this]
        · rw [if_neg h0]
          have : x ≠ y := fun e => h0 ((h.zero x y).2 e)
          simp [this, h0]
  refine ⟨?_, anti, zero, ?_, ?_⟩
  · intro a
    induction a with
    | nil => intro b; cases b <;> simp [lexC]
    | cons x a ih =>
      intro b
      cases b with
      | nil => simp [lexC]
      | cons y b =>
        simp only [lexC]
        by_cases h0 : c x y = 0
        · rw [if_pos h0]; exact ih b
        · rw [if_neg h0]; exact h.rng x y
  · intro a
    induction a with
    | nil => intro b d; cases b <;> cases d <;> simp [lexC]
    | cons x a ih =>
      intro b d
      cases b with
      | nil => simp [lexC]
      | cons y b =>
        cases d with
        | nil => simp [lexC]
        | cons z d =>
          simp only [lexC]
          by_cases h0 : c x y = 0
          · rw [if_pos h0, h.congr x y z h0]
            by_cases h1 : c y z = 0
            · rw [if_pos h1, if_pos h1]; exact ih b d
            · rw [if_neg h1, if_neg h1]; exact fun _ k => k
          · rw [if_neg h0]
            by_cases h1 : c y z = 0
            · have e : c x z = c x y := by
                have h2 := h.congr z y x (by have := h.anti y z; omega)
                have h3 := h.anti x z
                have h4 := h.anti x y
                omega
              rw [if_pos h1, e, if_neg h0]
              exact fun k _ => k
            · rw [if_neg h1]
              intro k1 k2
              have := h.trans x y z k1 k2
              rw [if_neg (by omega)]
              exact this
  · intro a b d hab
    rw [zero] at hab
    rw [hab]
theorem cmpS_lex : ∀ a b : List UInt8, Lib.compareBytes a b = lexC cmpU a b
  | [], [] => rfl
  | [], _ :: _ => rfl
  | _ :: _, [] => rfl
  | x :: a, y :: b => by
    simp only [Lib.compareBytes, lexC, cmpU, cmpS_lex a b]
    by_cases h1 : x < y
    · simp [h1]
    · by_cases h2 : y < x
      · simp [h1, h2]
      · simp [h1, h2]
theorem good_cmpS : GoodC cmpS (fun a b => bs a = bs b) := by
  have g := good_lex good_cmpU
  refine ⟨fun a b => ?_, fun a b => ?_, fun a b => ?_, fun a b d => ?_, fun a b d => ?_⟩ <;> simp only [cmpS, cmpS_lex]
  · exact g.rng _ _
  · exact g.anti _ _
  · exact g.zero _ _
  · exact g.trans _ _ _
  · exact g.congr _ _ _
theorem good_or {α : Type} {c d : α → α → Int} {e f : α → α → Prop} (h : GoodC c e) (k : GoodC d f) : GoodC (fun a b => orI (c a b) (d a b)) (fun a b => e a b ∧ f a b) := by
  refine ⟨fun a b => ?_, fun a b => ?_, fun a b => ?_, fun a b x => ?_, fun a b x => ?_⟩ <;> simp only [orI]
  · split
    · exact k.rng _ _
    · exact h.rng _ _
  · have h1 := h.anti a b
    have h2 := k.anti a b
    by_cases h0 : c a b = 0
    · rw [if_pos h0, if_pos (by omega)]; exact h2
    · rw [if_neg h0, if_neg (by omega)]; exact h1
  · by_cases h0 : c a b = 0
    · rw [if_pos h0, k.zero, ← h.zero]; simp [h0]
    · rw [if_neg h0]
      have : ¬ e a b := fun q => h0 ((h.zero _ _).2 q)
      simp [this, h0]
  · by_cases h0 : c a b = 0
    · rw [if_pos h0, h.congr a b x h0]
      by_cases h1 : c b x = 0
      · rw [if_pos h1, if_pos h1]; exact k.trans _ _ _
      · rw [if_neg h1, if_neg h1]; exact fun _ q => q
    · rw [if_neg h0]
      by_cases h1 : c b x = 0
      · have q : c a x = c a b := by
          have h2 := h.congr x b a (by have := h.anti b x; omega)
          have h3 := h.anti a x
          have h4 := h.anti a b
          omega
        rw [if_pos h1, q, if_neg h0]
        exact fun q _ => q
      · rw [if_neg h1]
        intro q1 q2
        have := h.trans a b x q1 q2
        rw [if_neg (by omega)]
        exact this
  · intro q
    by_cases h0 : c a b = 0
    · rw [if_pos h0] at q
      rw [h.congr a b x h0, k.congr a b x q]
    · rw [if_neg h0] at q; omega
theorem good_map {α β : Type} {c : β → β → Int} {e : β → β → Prop} (f : α → β) (h : GoodC c e) : GoodC (fun a b => c (f a) (f b)) (fun a b => e (f a) (f b)) :=
  ⟨fun _ _ => h.rng _ _, fun _ _ => h.anti _ _, fun _ _ => h.zero _ _, fun _ _ _ => h.trans _ _ _, fun _ _ _ => h.congr _ _ _⟩
theorem good_cmpLn : GoodC cmpLn (fun a b => sameLn a b = true) := by
  have g := good_or (good_map (fun x : Ln => x.life) good_cmpS) (good_or (good_map (fun x : Ln => x.pl.var) good_cmpS) (good_or (good_map (fun x : Ln => x.pl.steps) (good_lex good_cmpI)) (good_map (fun x : Ln => oneI x.mt) good_cmpI)))
  refine ⟨g.rng, g.anti, fun a b => (g.zero a b).trans ?_, g.trans, g.congr⟩
  unfold sameLn oneI
  cases a.mt <;> cases b.mt <;> simp [and_assoc]
def before (a b : Ln) : Bool := cmpLn a b == -1
theorem cmp_before (a b : Ln) : cmpLn a b = if before a b then -1 else if before b a then 1 else 0 := by
  unfold before
  have h1 := good_cmpLn.rng a b
  have h2 := good_cmpLn.anti a b
  rcases h1 with h | h | h <;> rw [h] at h2 ⊢ <;> rw [h2] <;> rfl
theorem less_eq : ∀ a b : List UInt8, Op.bytesLess a b = (lexC cmpU a b == -1)
  | [], [] => rfl
  | [], _ :: _ => rfl
  | _ :: _, [] => rfl
  | x :: a, y :: b => by
    simp only [Op.bytesLess, lexC, less_eq a b, cmpU]
    by_cases h1 : x < y
    · simp [h1]
    · by_cases h2 : y < x
      · have : x ≠ y := fun e => by subst e; exact h1 h2
        simp [h1, h2, this]
      · have : x = y := UInt8.le_antisymm (UInt8.not_lt.1 h2) (UInt8.not_lt.1 h1)
        simp [this, UInt8.lt_irrefl]

/-! ### Places -/
def overlap (a b : Pl) : Bool := bs a.var == bs b.var && (a.steps.isPrefixOf b.steps || b.steps.isPrefixOf a.steps)
theorem take_min (a b : List Int) : (a.take (min a.length b.length) == b.take (min a.length b.length)) = (a.isPrefixOf b || b.isPrefixOf a) := by
  induction a generalizing b with
  | nil => cases b <;> simp [List.isPrefixOf]
  | cons x a ih =>
    cases b with
    | nil => simp [List.isPrefixOf]
    | cons y b =>
      rw [List.length_cons, List.length_cons, Nat.succ_min_succ, List.take_succ_cons, List.take_succ_cons, List.isPrefixOf, List.isPrefixOf]
      rw [show ((x :: a.take (min a.length b.length)) == (y :: b.take (min a.length b.length))) = (x == y && (a.take (min a.length b.length) == b.take (min a.length b.length))) from rfl, ih b]
      by_cases h : x = y
      · subst h; simp
      · have h2 : ¬ y = x := fun e => h e.symm
        rw [beq_eq_false_iff_ne.2 h, beq_eq_false_iff_ne.2 h2]; rfl

/-! ### What is right -/
def rightLn (l : Ln) : Bool := (bs l.life).isEmpty || ((bs l.pl.var).isEmpty && l.pl.steps.length == 0 && !l.mt)
def rising : List Ln → Bool
  | a :: b :: r => before a b && rising (b :: r)
  | _ => true
def rightLns (l : List Ln) : Bool := l.all rightLn && rising l
mutual
def refsT : ETy → Bool | .mk k _ _ _ _ _ kids => k == 4 || refsTs kids
def refsTs : List ETy → Bool | [] => false | t :: ts => refsT t || refsTs ts
end
mutual
def lostT : ETy → Bool | .mk _ _ g _ _ _ kids => g || lostTs kids
def lostTs : List ETy → Bool | [] => false | t :: ts => lostT t || lostTs ts
end
def askT (k : Int) (m g : Bool) (ls : List Ln) (n : Nat) (refs lost : Bool) : Bool :=
  if k = 4 then rightLns ls && (n == 1 && !refs && !lost && (m || !g))
  else !m && ls.length == 0 && (if k = 1 then n == 0 && !g else if k = 2 then n == 1 && !refs && !lost else if k = 3 then decide (2 ≤ n) && decide (n ≤ 30) && !g else false)
mutual
def rightT : ETy → Bool | .mk k m g _ ls _ kids => rightTs kids && askT k m g ls kids.length (refsTs kids) (lostTs kids)
def rightTs : List ETy → Bool | [] => true | t :: ts => rightT t && rightTs ts
end
def right (e : List Bd) : Bool := e.all fun b => rightT b.ty

/-- a part's own, whatever its kids are -/
def okPart (inside : Bool) : ETy → Bool
  | .mk k m g _ ls _ kids => if inside && (k == 4 || g) then false
    else if k = 1 then !m && !g && ls.length == 0 && kids.length == 0
    else if k = 2 then !m && ls.length == 0 && kids.length == 1
    else if k = 3 then !m && !g && ls.length == 0 && decide (2 ≤ kids.length) && decide (kids.length ≤ 30)
    else if k = 4 then (m || !g) && rightLns ls && kids.length == 1
    else false
/-- does it go further into Box or Ref? -/
def innerK (k : Int) : Bool := k == 2 || k == 4
mutual
def allT (q : Bool → ETy → Bool) (i : Bool) : ETy → Bool | .mk k m g lv ls kv kids => q i (.mk k m g lv ls kv kids) && allTs q (i || innerK k) kids
def allTs (q : Bool → ETy → Bool) (i : Bool) : List ETy → Bool | [] => true | t :: ts => allT q i t && allTs q i ts
end
mutual
theorem inside_all : ∀ t : ETy, allT okPart true t = (rightT t && !refsT t && !lostT t)
  | .mk k m g lv ls kv kids => by
    have ih := insides_all kids
    simp only [allT, Bool.true_or, ih, rightT, refsT, lostT, okPart, askT, Bool.true_and]
    by_cases h1 : k = 1 <;> by_cases h2 : k = 2 <;> by_cases h3 : k = 3 <;> by_cases h4 : k = 4 <;> simp_all <;> cases g <;> cases m <;> cases rightTs kids <;> cases refsTs kids <;> cases lostTs kids <;> simp [Bool.and_comm, Bool.and_assoc]
theorem insides_all : ∀ l : List ETy, allTs okPart true l = (rightTs l && !refsTs l && !lostTs l)
  | [] => rfl
  | t :: ts => by
    simp only [allTs, inside_all t, insides_all ts, rightTs, refsTs, lostTs]
    cases rightT t <;> cases rightTs ts <;> cases refsT t <;> cases refsTs ts <;> cases lostT t <;> cases lostTs ts <;> rfl
end
mutual
theorem right_all : ∀ t : ETy, allT okPart false t = rightT t
  | .mk k m g lv ls kv kids => by
    have ih := rights_all kids
    have ih2 := insides_all kids
    simp only [allT, Bool.false_or, rightT, okPart, askT, innerK]
    by_cases h1 : k = 1 <;> by_cases h2 : k = 2 <;> by_cases h3 : k = 3 <;> by_cases h4 : k = 4 <;> simp_all <;> cases g <;> cases m <;> cases rightTs kids <;> cases refsTs kids <;> cases lostTs kids <;> simp [Bool.and_comm, Bool.and_assoc]
theorem rights_all : ∀ l : List ETy, allTs okPart false l = rightTs l
  | [] => rfl
  | t :: ts => by rw [allTs, rightTs, right_all t, rights_all ts]
end

/-! ### What fits, is at most -/
mutual
def fitsT : ETy → ETy → Bool | .mk k m _ _ _ _ kids, .mk k' m' _ _ _ _ kids' => k == k' && m == m' && kids.length == kids'.length && fitsTs kids kids'
def fitsTs : List ETy → List ETy → Bool | t :: ts, u :: us => fitsT t u && fitsTs ts us | _, _ => true
end
def has (l : List Ln) (x : Ln) : Bool := l.any fun y => sameLn y x
mutual
def lessT : ETy → ETy → Bool | .mk _ _ g _ ls _ kids, .mk _ _ g' _ ls' _ kids' => ls.all (has ls') && lessTs kids kids' && (!g || g')
def lessTs : List ETy → List ETy → Bool | t :: ts, u :: us => lessT t u && lessTs ts us | _, _ => true
end
def both (a b : List Bd) : Bool := right a && right b && a.length == b.length && (a.zip b).all fun p => bs p.1.name == bs p.2.name && fitsT p.1.ty p.2.ty
def less (a b : List Bd) : Bool := both a b && (a.zip b).all fun p => lessT p.1.ty p.2.ty

/-! ### What is hit -/
def hitLn (p : Pl) (w : Bool) (l : Ln) : Bool := (bs l.life).isEmpty && (w || l.mt) && overlap l.pl p
mutual
def hitT (p : Pl) (w : Bool) : ETy → Bool | .mk _ _ _ _ ls _ kids => ls.any (hitLn p w) || hitTs p w kids
def hitTs (p : Pl) (w : Bool) : List ETy → Bool | [] => false | t :: ts => hitT p w t || hitTs p w ts
end
def hit (e : List Bd) (p : Pl) (w : Bool) : Bool := e.any fun b => hitT p w b.ty
mutual
theorem hit_all (p : Pl) (w i : Bool) : ∀ t : ETy, allT (fun _ t => !t.loans.any (hitLn p w)) i t = !hitT p w t
  | .mk k m g lv ls kv kids => by
    have ih := hits_all p w (i || innerK k) kids
    rw [allT, ih, hitT, Bool.not_or]
    rfl
theorem hits_all (p : Pl) (w i : Bool) : ∀ l : List ETy, allTs (fun _ t => !t.loans.any (hitLn p w)) i l = !hitTs p w l
  | [] => rfl
  | t :: ts => by rw [allTs, hitTs, hit_all p w i t, hits_all p w i ts, Bool.not_or]
end

/-! ### How much there is -/
mutual
def nT : ETy → Nat | .mk _ _ _ _ _ _ kids => 1 + nTs kids
def nTs : List ETy → Nat | [] => 0 | t :: ts => nT t + nTs ts
end
def wPl (p : Pl) : Nat := 3 + p.var.size + p.steps.length
def wLn (l : Ln) : Nat := 3 + l.life.size + wPl l.pl
def wLns : List Ln → Nat | [] => 0 | l :: ls => wLn l + wLns ls
mutual
def wT : ETy → Nat | .mk _ _ _ _ ls _ kids => 5 + wLns ls + wTs kids
def wTs : List ETy → Nat | [] => 0 | t :: ts => wT t + wTs ts
end
def wBd (b : Bd) : Nat := 2 + b.name.size + wT b.ty
def wBds : List Bd → Nat | [] => 0 | b :: r => wBd b + wBds r
theorem nTs_sum : ∀ l : List ETy, nTs l = (l.map nT).sum
  | [] => by simp [nTs]
  | t :: ts => by simp [nTs, nTs_sum ts]
theorem wTs_sum : ∀ l : List ETy, wTs l = (l.map wT).sum
  | [] => by simp [wTs]
  | t :: ts => by simp [wTs, wTs_sum ts]
theorem wLns_sum : ∀ l : List Ln, wLns l = (l.map wLn).sum
  | [] => by simp [wLns]
  | t :: ts => by simp [wLns, wLns_sum ts]
theorem wBds_sum : ∀ l : List Bd, wBds l = (l.map wBd).sum
  | [] => by simp [wBds]
  | t :: ts => by simp [wBds, wBds_sum ts]
mutual
theorem nT_le : ∀ t : ETy, nT t ≤ wT t
  | .mk _ _ _ _ ls _ kids => by have := nTs_le kids; rw [nT, wT]; omega
theorem nTs_le : ∀ l : List ETy, nTs l ≤ wTs l
  | [] => by simp [nTs, wTs]
  | t :: ts => by have := nT_le t; have := nTs_le ts; rw [nTs, wTs]; omega
end
theorem mem_sum {α : Type} (f : α → Nat) : ∀ {l : List α} {x : α}, x ∈ l → f x ≤ (l.map f).sum
  | y :: l, x, h => by
    rcases List.mem_cons.1 h with rfl | h
    · simp
    · have := mem_sum f h; simp; omega
theorem len_sum {α : Type} (f : α → Nat) (k : Nat) (hf : ∀ x, k ≤ f x) : ∀ l : List α, l.length * k ≤ (l.map f).sum
  | [] => by simp
  | y :: l => by have := len_sum f k hf l; have := hf y; simp [Nat.add_mul]; omega
theorem wT_ge : ∀ t : ETy, 5 ≤ wT t | .mk _ _ _ _ _ _ _ => by rw [wT]; omega
theorem nT_ge : ∀ t : ETy, 1 ≤ nT t | .mk _ _ _ _ _ _ _ => by rw [nT]; omega
theorem kids_len (l : List ETy) : l.length * 5 ≤ wTs l := by rw [wTs_sum]; exact len_sum wT 5 wT_ge l
theorem loans_len (l : List Ln) : l.length * 6 ≤ wLns l := by rw [wLns_sum]; exact len_sum wLn 6 (fun x => by unfold wLn wPl; omega) l
theorem binds_len (l : List Bd) : l.length * 7 ≤ wBds l := by rw [wBds_sum]; exact len_sum wBd 7 (fun x => by have := wT_ge x.ty; unfold wBd; omega) l
end Go.Proofs.YtannfhbocfghkaaDoor.EnvP
/- A range over a function whose iterator keeps a list of work: what the iterator promises (Walks), and the statement by it (range_of). No program. -/
namespace Go.Proofs.YtannfhbocfghkaaDoor.EnvC
open Go Go.RowKit

/-- the iterator's own steps: of what was there it may turn blocks of cells of its own type alone, from B on -/
structure Iter (T : TypeId) (B : Nat) (W W' : World) : Prop where
  os : W'.os = W.os
  tape : W'.tape = W.tape
  output : W'.output = W.output
  size : W.heap.size ≤ W'.heap.size
  same : ∀ (k : Nat) (o : Obj), W.heap[k]? = some o → (k < B ∨ ∀ cs f, o ≠ .cells cs T f) → W'.heap[k]? = some o
/-- likewise, and what is no cells, from B on -/
structure Soft (T : TypeId) (B : Nat) (W W' : World) : Prop where
  os : W'.os = W.os
  tape : W'.tape = W.tape
  output : W'.output = W.output
  size : W.heap.size ≤ W'.heap.size
  same : ∀ (k : Nat) (o : Obj), W.heap[k]? = some o → (k < B ∨ (o.isCells = true ∧ ∀ cs f, o ≠ .cells cs T f)) → W'.heap[k]? = some o
/-- all cells lie as they lay -/
def CellsSame (W W' : World) : Prop := ∀ (k : Nat) (o : Obj), W.heap[k]? = some o → o.isCells = true → W'.heap[k]? = some o
/-- cells of two types lie as they lay -/
def TypesKept (T U : TypeId) (W W' : World) : Prop := ∀ (k : Nat) (cs : Array Value) (f : Nat × Nat), (W.heap[k]? = some (.cells cs T f) → W'.heap[k]? = some (.cells cs T f)) ∧ (W.heap[k]? = some (.cells cs U f) → W'.heap[k]? = some (.cells cs U f))
theorem TypesKept.trans {T U : TypeId} {A B C : World} (h : TypesKept T U A B) (k : TypesKept T U B C) : TypesKept T U A C := fun b cs f => ⟨fun e => (k b cs f).1 ((h b cs f).1 e), fun e => (k b cs f).2 ((h b cs f).2 e)⟩
theorem CellsSame.types {T U : TypeId} {A B : World} (h : CellsSame A B) : TypesKept T U A B := fun b _cs _f => ⟨fun e => h b _ e rfl, fun e => h b _ e rfl⟩
theorem Below.cellsSame {A B : World} (h : Below A.heap.size A B) : CellsSame A B := fun k _ e _ => (h.block k (Array.getElem?_eq_some_iff.1 e).1).trans e
theorem Below.keepsFrom {A B : World} (h : Below A.heap.size A B) (b : Nat) : KeepsFrom b A B := ⟨h.size, fun k _ _ e _ => (h.block k (Array.getElem?_eq_some_iff.1 e).1).trans e⟩
theorem Iter.refl (T : TypeId) (B : Nat) (W : World) : Iter T B W W := ⟨rfl, rfl, rfl, Nat.le_refl _, fun _ _ h _ => h⟩
theorem Iter.trans {T : TypeId} {B : Nat} {x y z : World} (h : Iter T B x y) (k : Iter T B y z) : Iter T B x z :=
  ⟨k.os.trans h.os, k.tape.trans h.tape, k.output.trans h.output, Nat.le_trans h.size k.size, fun i o e c => k.same i o (h.same i o e c) c⟩
theorem Iter.of_below {T : TypeId} {B : Nat} {x y : World} (h : Below x.heap.size x y) : Iter T B x y :=
  ⟨h.os, h.tape, h.output, h.size, fun k _ e _ => (h.block k (Array.getElem?_eq_some_iff.1 e).1).trans e⟩
theorem Iter.drew {T : TypeId} {B : Nat} {x y : World} (h : Iter T B x y) : Iter T B x y.drew := ⟨h.os, h.tape, h.output, h.size, h.same⟩
theorem Iter.grown {T : TypeId} {B : Nat} {x y : World} {row : Option Nat} (h : x.grownBy y row) (hr : ∀ r, row = some r → B ≤ r ∧ ∀ o, x.heap[r]? = some o → ∃ cs f, o = .cells cs T f) : Iter T B x y :=
  ⟨h.os, h.tape, h.output, h.size, fun k o e c => (h.block k (Array.getElem?_eq_some_iff.1 e).1 (fun er => by
    obtain ⟨h1, h2⟩ := hr k er.symm
    obtain ⟨cs, f, rfl⟩ := h2 o e
    rcases c with c | c
    · omega
    · exact c cs f rfl)).trans e⟩
theorem Iter.soft {T : TypeId} {B B' : Nat} {x y : World} (h : Iter T B' x y) (hB : B ≤ B') : Soft T B x y :=
  ⟨h.os, h.tape, h.output, h.size, fun k o e c => h.same k o e (c.elim (fun c => .inl (by omega)) fun c => .inr c.2)⟩
theorem Soft.put {T : TypeId} {B : Nat} {x : World} {l : Nat} {o : Obj} (o' : Obj) (hl : x.heap[l]? = some o) (ho : o.isCells = false) (hB : B ≤ l) : Soft T B x (x.putObj l o') :=
  ⟨rfl, rfl, rfl, by simp, fun k p e c => (World.putObj_heap_other (fun ek => by
    subst ek
    rw [hl] at e; cases e
    rcases c with c | c
    · omega
    · rw [ho] at c; cases c.1)).trans e⟩
theorem Soft.below {T : TypeId} {B : Nat} {x y : World} (h : Soft T B x y) (hB : B ≤ x.heap.size) : Below B x y :=
  ⟨h.os, h.tape, h.output, h.size, fun k hk => by
    have hlt : k < x.heap.size := by omega
    have e : x.heap[k]? = some x.heap[k] := Array.getElem?_eq_getElem hlt
    rw [e]; exact h.same k _ e (.inl hk)⟩
theorem Soft.drew {T : TypeId} {B : Nat} {x y : World} (h : Soft T B x y) : Soft T B x y.drew := ⟨h.os, h.tape, h.output, h.size, h.same⟩
theorem cellsSame_put {x : World} {l : Nat} {o : Obj} (o' : Obj) (hl : x.heap[l]? = some o) (ho : o.isCells = false) : CellsSame x (x.putObj l o') := fun k p e c => (World.putObj_heap_other (fun ek => by
  subst ek; rw [hl] at e; cases e; rw [ho] at c; cases c)).trans e
theorem below_put {x : World} {l B : Nat} (o' : Obj) (hB : B ≤ l) : Below B x (x.putObj l o') := ⟨rfl, rfl, rfl, by simp, fun k hk => World.putObj_heap_other (by omega)⟩

variable {F : Fence} {n : Nat} {P : Program}

/-- the iterator's promise: it shows what is on its list of work, the last one first; behind a thing that is shown, and where the round goes on, the thing's kids are laid on the list -/
def Walks {α : Type} (F : Fence) (n : Nat) (P : Program) (g : Nat) (lb : Array Value) (T U : TypeId) (cells : α → List Value) (Kids : World → α → List α → Prop) (x0 : α) (w : World) : Prop :=
  ∀ (l : Nat) (J : List α → World → Prop) (Jx : World → Prop) (W : World), Below w.heap.size w W →
    (∀ s A B, J s A → Iter T W.heap.size A B → J s B) → (∀ A B, Jx A → Iter T W.heap.size A B → Jx B) →
    (∀ x r A, J (x :: r) A → YieldAt F (n - 1) P l #[.agg (cells x).toArray] A fun e B =>
      (e = .returned (.bool true) ∧ TypesKept T U A B ∧ A.heap.size ≤ B.heap.size ∧ ∃ ks, Kids B x ks ∧ J (ks ++ r) B) ∨ (e = .returned (.bool false) ∧ Jx B)) →
    J [x0] W →
    CallsIn F n P g (#[.func (.yield l) #[] #[]] ++ lb) W fun e B => (∃ v, e = .returned v) ∧ (J [] B ∨ Jx B)

/-- how a round may be left -/
def roundEnd {α : Type} (T U : TypeId) (b : Nat) (Kids : World → α → List α → Prop) (J : List α → World → Prop) (Jx : World → Prop) (x : α) (r : List α) (W : World) : Exit → Act → World → Prop
  | .normal, _, W' => KeepsFrom b W W' ∧ TypesKept T U W W' ∧ ∃ ks, Kids W' x ks ∧ J (ks ++ r) W'
  | .ret, _, W' => KeepsFrom b W W' ∧ Jx W'
  | _, _, _ => False

theorem range_of {α : Type} {g : Operand} {ps : Array Tmp} {assign body : Code} {Q : Exit → Act → World → Prop} {a : Act} {w : World}
    (hro : F.round = none) (h1 : 1 ≤ n) {gf : Nat} {lb : Array Value} (hg : a.eval g = .func (.func gf) #[] lb) (hFg : F.fn gf) (eg : ∀ args w, (callFunc gf args).run P w = .ok (.enter gf args) w)
    {T U : TypeId} {cells : α → List Value} {Kids : World → α → List α → Prop} {x0 : α} {w0 : World} (hseq : Walks F (n - 1) P gf lb T U cells Kids x0 w0) (hb0 : Below w0.heap.size w0 w) (hps : ps.size = 1)
    (hK : ∀ A B x ks, Kids A x ks → CellsSame A B → Kids B x ks)
    (J : List α → World → Prop) (Jx : World → Prop) (hJ : ∀ s A B, J s A → Soft T w.heap.size A B → J s B) (hJx : ∀ A B, Jx A → Soft T w.heap.size A B → Jx B) (h0 : J [x0] w)
    (hround : ∀ (l : Nat) (x : α) (r : List α) (W : World), J (x :: r) W → assign.wpIn (F.inRound l) (n - 1 - 1) P
      (Exit.then (fun a1 W1 => KeepsFrom w.heap.size W W1 ∧ TypesKept T U W W1 ∧ ∀ W2, Below w.heap.size W1 W2 → CellsSame W1 W2 →
        body.wpIn (F.inRound l) (n - 1 - 1) P (roundEnd T U w.heap.size Kids J Jx x r W2) a1 W2) (fun _ _ _ => False))
      { tmps := (ps.zip #[.agg (cells x).toArray]).foldl (fun t (p, v) => t.setIfInBounds p v) a.tmps, defers := [] } W)
    (hdone : ∀ (D : Nat) (W : World), w.heap.size ≤ D → J [] W → W.heap[D]? = some (.deferred (some [])) → Q .normal { a with defers := { target := .collected D, args := #[] } :: a.defers } W)
    (hstop : ∀ (D : Nat) (W : World), w.heap.size ≤ D → Jx W → W.heap[D]? = some (.deferred (some [])) → (Code.ret).wpIn F n P Q { a with defers := { target := .collected D, args := #[] } :: a.defers } W) :
    (Code.rangeFunc g ps assign body).wpIn F n P Q a w := by
  refine wpIn_rangeFunc fun fn hfn => ?_
  rw [hro]
  -- the record, by its state and what is pending
  generalize hR : (fun (st : LoopState) (pe : Option Code) => ({ state := st, pending := pe, fn, tmps := a.tmps, params := ps, assign, body, defers := w.heap.size } : Loop)) = R
  have eR : ∀ st pe, ({ state := st, pending := pe, fn, tmps := a.tmps, params := ps, assign, body, defers := w.heap.size } : Loop) = R st pe := fun st pe => congrFun (congrFun hR st) pe
  generalize hv : (w.alloc (.deferred (some []))).alloc (.loop (R .ready none)) = V
  have vsize : V.heap.size = w.heap.size + 2 := by rw [← hv]; simp
  have vrec : V.heap[w.heap.size + 1]? = some (.loop (R .ready none)) := by
    have := World.alloc_heap_new (w.alloc (.deferred (some []))) (.loop (R .ready none))
    rw [World.size_alloc, hv] at this; exact this
  have vdef : V.heap[w.heap.size]? = some (.deferred (some [])) := by
    rw [← hv]; exact (Below.heap_alloc _ _ _ (by simp)).trans (World.alloc_heap_new w _)
  have wv : Below w.heap.size w V := by rw [← hv]; exact ((Below.refl _ w).alloc (Nat.le_refl _) _).alloc (by simp) _
  refine ⟨w.heap.size + 1, [{ target := .collected w.heap.size, args := #[] }], V, { target := .fn (.func gf) lb, args := #[.func (.yield (w.heap.size + 1)) #[] #[]] }, V, gf,
    #[.func (.yield (w.heap.size + 1)) #[] #[]] ++ lb, V, ?_, ?_, ?_, ?_, fun _ => h1, ?_⟩
  · rw [← hv, ← eR]; exact run_enterLoop_outer _ _ _ _ _
  · simp only [resolve, hg]; simp [go_sem]
  · intro f' hf'; simp [Target.leads] at hf'; subst hf'; exact hFg
  · simp [invoke, go_sem, eg]
  refine (hseq (w.heap.size + 1)
    (fun s W => J s W ∧ W.heap[w.heap.size + 1]? = some (.loop (R .ready none)) ∧ W.heap[w.heap.size]? = some (.deferred (some [])))
    (fun W => Jx W ∧ W.heap[w.heap.size + 1]? = some (.loop (R .done (some .ret))) ∧ W.heap[w.heap.size]? = some (.deferred (some [])))
    V (hb0.trans (wv.mono hb0.size))
    (fun s A B hs hi => ⟨hJ s A B hs.1 (hi.soft (by omega)), hi.same _ _ hs.2.1 (.inl (by omega)), hi.same _ _ hs.2.2 (.inl (by omega))⟩)
    (fun A B hs hi => ⟨hJx A B hs.1 (hi.soft (by omega)), hi.same _ _ hs.2.1 (.inl (by omega)), hi.same _ _ hs.2.2 (.inl (by omega))⟩)
    ?_ ⟨hJ _ _ _ h0 ((Iter.of_below wv).soft (B' := w.heap.size) (Nat.le_refl _)), vrec, vdef⟩).mono ?_
  · rintro x r A ⟨hj, hl, hd⟩
    have hy := run_yield (P := P) (args := #[.agg (cells x).toArray]) hl (by rw [← eR, hps]; rfl)
    rw [← eR] at hy
    refine ⟨fn, _, assign, body, hy, roundIn_of_wpIn hfn (wpIn_mono (hround (w.heap.size + 1) x r A hj) ?_)⟩
    rintro e a1 W1 hp
    cases e with
    | normal =>
      obtain ⟨k1, t1, hbody⟩ := hp
      have hl1 := k1.same _ _ (by omega) hl rfl
      have hd1 := k1.same _ _ (Nat.le_refl _) hd rfl
      have hlt : w.heap.size + 1 < W1.heap.size := (Array.getElem?_eq_some_iff.1 hl1).1
      refine ⟨_, run_beginRound hl1 (by rw [← eR]), ?_⟩
      have c2 := cellsSame_put (Obj.loop { R .ready none with state := .busy }) hl1 rfl
      have hl2 : (W1.putObj (w.heap.size + 1) (.loop { R .ready none with state := .busy })).heap[w.heap.size + 1]? = some (.loop { R .ready none with state := .busy }) := World.putObj_heap_same hlt
      have hd2 : (W1.putObj (w.heap.size + 1) (.loop { R .ready none with state := .busy })).heap[w.heap.size]? = some (.deferred (some [])) := (World.putObj_heap_other (by omega)).trans hd1
      have hs2 : (W1.putObj (w.heap.size + 1) (.loop { R .ready none with state := .busy })).heap.size = W1.heap.size := World.putObj_size
      refine wpIn_mono (hbody _ (below_put _ (by omega)) c2) ?_
      generalize W1.putObj (w.heap.size + 1) (.loop { R .ready none with state := .busy }) = W2 at *
      rintro e a2 W3 hp
      cases e with
      | normal =>
        obtain ⟨k3, t3, ks, hks, hj3⟩ := hp
        have hl3 := k3.same _ _ (by omega) hl2 rfl
        have hd3 := k3.same _ _ (Nat.le_refl _) hd2 rfl
        have hr := run_endRound (P := P) none hl3
        rw [← eR] at hr hl3
        refine ⟨_, _, hr, .inl ⟨rfl, ((t1.trans c2.types).trans t3).trans (cellsSame_put _ hl3 rfl).types, by rw [World.putObj_size]; have := k1.size; have := k3.size; omega, ks, hK _ _ _ _ hks (cellsSame_put _ hl3 rfl), hJ _ _ _ hj3 (Soft.put _ hl3 rfl (by omega)), ?_, ?_⟩⟩
        · rw [← eR]; exact World.putObj_heap_same (Array.getElem?_eq_some_iff.1 hl3).1
        · exact (World.putObj_heap_other (by omega)).trans hd3
      | ret =>
        obtain ⟨k3, hj3⟩ := hp
        have hl3 := k3.same _ _ (by omega) hl2 rfl
        have hd3 := k3.same _ _ (Nat.le_refl _) hd2 rfl
        have hr := run_endRound (P := P) (some .ret) hl3
        rw [← eR] at hr hl3
        refine ⟨_, _, hr, .inr ⟨rfl, hJx _ _ hj3 (Soft.put _ hl3 rfl (by omega)), ?_, ?_⟩⟩
        · rw [← eR]; exact World.putObj_heap_same (Array.getElem?_eq_some_iff.1 hl3).1
        · exact (World.putObj_heap_other (by omega)).trans hd3
      | exit id => exact hp.elim
      | goto t => exact hp.elim
      | panic ch => exact hp.elim
      | outgrown => exact hp.elim
    | exit id => exact hp.elim
    | goto t => exact hp.elim
    | ret => exact hp.elim
    | panic ch => exact hp.elim
    | outgrown => exact hp.elim
  · rintro e B ⟨⟨v, rfl⟩, ⟨hj, hl, hd⟩ | ⟨hj, hl, hd⟩⟩
    · have := run_endLoop (P := P) hl (by rw [← eR]; simp)
      rw [← eR] at this
      exact ⟨none, _, this, hdone _ _ (Nat.le_refl _) (hJ _ _ _ hj (Soft.put _ hl rfl (by omega))) ((World.putObj_heap_other (by omega)).trans hd)⟩
    · have := run_endLoop (P := P) hl (by rw [← eR]; simp)
      rw [← eR] at this
      exact ⟨some .ret, _, this, hstop _ _ (Nat.le_refl _) (hJx _ _ hj (Soft.put _ hl rfl (by omega))) ((World.putObj_heap_other (by omega)).trans hd)⟩
end Go.Proofs.YtannfhbocfghkaaDoor.EnvC
/-
  DERIVED: THE SHELF's CONTRACTS AT THIS DUMP, IN PLAIN WORDS (tools/lay-plain.mjs out of 'TrydShelf.lean', which tools/lay-shelf.mjs wrote): THE SAME DECLARATIONS UNDER THE SAME NAMES: 'import', 'namespace', 'open', 'def', 'theorem' AND NOTHING ELSE: no command of the shelf's: FOR A HAND-IN. Each laying: the table of numbers ('.._ren') and one theorem, a field a fact of the dump's own or the kernel's comparison; each contract: ONE APPLICATION.
-/
namespace Go.Proofs
open Go.Shelf
def Tryd.lays213_ren : Go.Shelf.Ren := ⟨fun | 213 => 73 | 265 => 75 | n => n, fun | 9 => 9 | 3 => 3 | n => n, fun | n => n⟩
theorem Tryd.lays213 : Go.Proofs.Lays.n213 Tryd.prog Tryd.lays213_ren := {
  mixed := by kernel_rfl
  f213 := Tryd.func73.trans (congrArg some (by kernel_rfl))
  f265 := Tryd.func75.trans (congrArg some (by kernel_rfl))
  t3 := Tryd.underlying3
  a3 := Tryd.isAgg3
  z3 := Tryd.sizeOf3
  v3 := Tryd.zeroValue3
  t9 := Tryd.underlying9
  a9 := Tryd.isAgg9
  z9 := Tryd.sizeOf9
  v9 := Tryd.zeroValue9 }
open Go.RowKit in
/-- internal/bytealg.CompareString (what strings.Compare calls): IT RETURNS 'Lib.compareBytes a b'; the world is as it was. (LAID: no walk: one application.) -/
theorem Tryd.bytealg_CompareString (a b : ByteArray) (w : World) :
    Calls Tryd.prog 73 #[.string a, .string b] w fun e w' => e = .returned (.int .i64 (Lib.compareBytes a.data.toList b.data.toList)) ∧ w' = w := Any.bytealg_CompareString Tryd.lays213 a b w
def Tryd.lays106_ren : Go.Shelf.Ren := ⟨fun | 106 => 64 | 213 => 73 | 265 => 75 | n => n, fun | 9 => 9 | 3 => 3 | n => n, fun | n => n⟩
theorem Tryd.lays106 : Go.Proofs.Lays.n106 Tryd.prog Tryd.lays106_ren := {
  mixed := by kernel_rfl
  f106 := Tryd.func64.trans (congrArg some (by kernel_rfl))
  f213 := Tryd.func73.trans (congrArg some (by kernel_rfl))
  f265 := Tryd.func75.trans (congrArg some (by kernel_rfl))
  t3 := Tryd.underlying3
  a3 := Tryd.isAgg3
  z3 := Tryd.sizeOf3
  v3 := Tryd.zeroValue3
  t9 := Tryd.underlying9
  a9 := Tryd.isAgg9
  z9 := Tryd.sizeOf9
  v9 := Tryd.zeroValue9 }
open Go.RowKit in
/-- strings.Compare: "Compare returns an integer comparing two strings lexicographically. The result will be 0 if a == b, -1 if a < b, and +1 if a > b.": IT RETURNS 'Lib.compareBytes a b'; the world is as it was. (LAID: no walk: one application.) -/
theorem Tryd.strings_Compare (a b : ByteArray) (w : World) :
    Calls Tryd.prog 64 #[.string a, .string b] w fun e w' => e = .returned (.int .i64 (Lib.compareBytes a.data.toList b.data.toList)) ∧ w' = w := Any.strings_Compare Tryd.lays106 a b w
def Tryd.lays215_ren : Go.Shelf.Ren := ⟨fun | 215 => 74 | n => n, fun | 3 => 3 | 4 => 4 | n => n, fun | n => n⟩
theorem Tryd.lays215 : Go.Proofs.Lays.n215 Tryd.prog Tryd.lays215_ren := {
  mixed := by kernel_rfl
  f215 := Tryd.func74.trans (congrArg some (by kernel_rfl))
  t3 := Tryd.underlying3
  a3 := Tryd.isAgg3
  z3 := Tryd.sizeOf3
  v3 := Tryd.zeroValue3
  t4 := Tryd.underlying4
  a4 := Tryd.isAgg4
  z4 := Tryd.sizeOf4
  v4 := Tryd.zeroValue4 }
open Go.RowKit in
/-- cmp.isNaN at int: 'x != x': false. (LAID: no walk: one application.) -/
theorem Tryd.cmp_isNaN_int (x : Int) (w : World) :
    Calls Tryd.prog 74 #[.int .i64 x] w fun e w' => e = .returned (.bool false) ∧ w' = w := Any.cmp_isNaN_int Tryd.lays215 x w
def Tryd.lays122_ren : Go.Shelf.Ren := ⟨fun | 122 => 66 | 215 => 74 | n => n, fun | 3 => 3 | 4 => 4 | n => n, fun | n => n⟩
theorem Tryd.lays122 : Go.Proofs.Lays.n122 Tryd.prog Tryd.lays122_ren := {
  mixed := by kernel_rfl
  f122 := Tryd.func66.trans (congrArg some (by kernel_rfl))
  f215 := Tryd.func74.trans (congrArg some (by kernel_rfl))
  t3 := Tryd.underlying3
  a3 := Tryd.isAgg3
  z3 := Tryd.sizeOf3
  v3 := Tryd.zeroValue3
  t4 := Tryd.underlying4
  a4 := Tryd.isAgg4
  z4 := Tryd.sizeOf4
  v4 := Tryd.zeroValue4 }
open Go.RowKit in
/-- cmp.Compare at int: "Compare returns -1 if x is less than y, 0 if x equals y, +1 if x is greater than y.": IT RETURNS 'Lib.compareInt x y'; the world is as it was. (LAID: no walk: one application.) -/
theorem Tryd.cmp_Compare_int (x y : Int) (w : World) :
    Calls Tryd.prog 66 #[.int .i64 x, .int .i64 y] w fun e w' => e = .returned (.int .i64 (Lib.compareInt x y)) ∧ w' = w := Any.cmp_Compare_int Tryd.lays122 x y w
def Tryd.lays111_ren : Go.Shelf.Ren := ⟨fun | 111 => 33 | n => n, fun | 28 => 40 | 3 => 3 | 4 => 4 | 0 => 0 | n => n, fun | n => n⟩
theorem Tryd.lays111 : Go.Proofs.Lays.n111 Tryd.prog Tryd.lays111_ren := {
  mixed := by kernel_rfl
  f111 := Tryd.func33.trans (congrArg some (by kernel_rfl))
  t0 := Tryd.underlying0
  a0 := Tryd.isAgg0
  z0 := Tryd.sizeOf0
  v0 := Tryd.zeroValue0
  t3 := Tryd.underlying3
  a3 := Tryd.isAgg3
  z3 := Tryd.sizeOf3
  v3 := Tryd.zeroValue3
  t4 := Tryd.underlying4
  a4 := Tryd.isAgg4
  z4 := Tryd.sizeOf4
  v4 := Tryd.zeroValue4
  t28 := Tryd.underlying40
  a28 := Tryd.isAgg40
  z28 := Tryd.sizeOf40
  v28 := Tryd.zeroValue40 }
open Go.RowKit Go.Lib in
/-- slices.Equal at []int: "Equal reports whether two slices are equal: the same length and all elements equal. If the lengths are different, Equal returns false. Otherwise, the elements are compared in increasing index order, and the comparison stops at the first unequal pair. Empty and nil slices are considered equal.": IT RETURNS WHETHER THE TWO LISTS OF ELEMENTS ARE ONE; the world is as it was but for the count of draws (the test 's1[i] != s2[i]' has two reads, whose order the model draws, once a round). 'xs', 'ys': what the cells behind the two addresses hold (the spare capacity too, if you have it); 'xs.take n', 'ys.take m': the elements. THE TWO SLICES MAY OVERLAP. (LAID: no walk: one application.) -/
theorem Tryd.slices_Equal_int (b1 o1 n c b2 o2 m d : Nat) (xs ys : List Int) (w : World) (hx : n ≤ xs.length) (hy : m ≤ ys.length) (hbig : n ≤ 9223372036854775807) (hbig2 : m ≤ 9223372036854775807) (hc1 : ∀ j, j < xs.length → w.cell? ⟨b1, o1 + j, none⟩ = some (.int .i64 (xs.getD j 0))) (hc2 : ∀ j, j < ys.length → w.cell? ⟨b2, o2 + j, none⟩ = some (.int .i64 (ys.getD j 0))) :
    Calls Tryd.prog 33 #[.slice (some ⟨b1, o1, none⟩) n c, .slice (some ⟨b2, o2, none⟩) m d] w fun e w' => e = .returned (.bool (xs.take n == ys.take m)) ∧ ∃ q, w' = w.drewN q := Any.slices_Equal_int Tryd.lays111 b1 o1 n c b2 o2 m d xs ys w hx hy hbig hbig2 hc1 hc2
open Go.RowKit Go.Lib in
/-- The same where the first is of length 0 (a nil one too): no cell is asked for. (LAID: no walk: one application.) -/
theorem Tryd.slices_Equal_int_empty (a1 a2 : Option Addr) (c m d : Nat) (w : World) (hbig2 : m ≤ 9223372036854775807) :
    Calls Tryd.prog 33 #[.slice a1 0 c, .slice a2 m d] w fun e w' => e = .returned (.bool (decide (m = 0))) ∧ w' = w := Any.slices_Equal_int_empty Tryd.lays111 a1 a2 c m d w hbig2
def Tryd.laysNm215_ren : Go.Shelf.Ren := ⟨fun | 15 => 48 | n => n, fun | 22 => 40 | 3 => 3 | 4 => 4 | n => n, fun | n => n⟩
theorem Tryd.laysNm215 : Go.Proofs.Lays2.n15 Tryd.prog Tryd.laysNm215_ren := {
  mixed := by kernel_rfl
  f15 := Tryd.func48.trans (congrArg some (by kernel_rfl))
  t3 := Tryd.underlying3
  a3 := Tryd.isAgg3
  z3 := Tryd.sizeOf3
  v3 := Tryd.zeroValue3
  t4 := Tryd.underlying4
  a4 := Tryd.isAgg4
  z4 := Tryd.sizeOf4
  v4 := Tryd.zeroValue4
  t22 := Tryd.underlying40
  a22 := Tryd.isAgg40
  z22 := Tryd.sizeOf40
  v22 := Tryd.zeroValue40
  i3 := by kernel_rfl }
open Go.RowKit Go.Lib in
/-- slices.Clone at []int: "Clone returns a copy of the slice. The elements are copied using assignment, so this is a shallow clone. The result may have additional unused capacity. The result preserves the nilness of s.": OF A SLICE THAT IS NOT nil IT RETURNS A SLICE THAT IS NOT nil, OF THE SAME ELEMENTS, IN MEMORY OF THE CALL's OWN: in the how-to's words (6f): 'w'.ownsRow B e 1 v' n cells': v' begins at the head of a row among the blocks from B on (B: the heap's size at the call), not frozen, whose first cells are the elements · 'Below B w w'': below B all is as it was. The capacity is whatever the run-time gives. 'zs': what the cells behind the slice's address hold; 'zs.take n': its elements. (LAID: no walk: one application.) -/
theorem Tryd.slices_Clone_int (b off n c : Nat) (zs : List Int) (w : World) (hz : n ≤ zs.length) (hbig : n * 8 ≤ 140737488355328) (hc : ∀ j, j < zs.length → w.cell? ⟨b, off + j, none⟩ = some (.int .i64 (zs.getD j 0))) :
    Calls Tryd.prog 48 #[.slice (some ⟨b, off, none⟩) n c] w fun e w' => ∃ v', e = .returned v' ∧ w'.ownsRow w.heap.size 3 1 v' n ((zs.take n).map (Value.int .i64)) ∧ v' ≠ .slice none 0 0 ∧ Below w.heap.size w w' := Any.slices_Clone_int Tryd.laysNm215 b off n c zs w hz hbig hc
open Go.RowKit Go.Lib in
/-- The same at nil: nil comes back; the world is as it was. (LAID: no walk: one application.) -/
theorem Tryd.slices_Clone_int_nil (n c : Nat) (w : World) :
    Calls Tryd.prog 48 #[.slice none n c] w fun e w' => e = .returned (.slice none 0 0) ∧ w' = w := Any.slices_Clone_int_nil Tryd.laysNm215 n c w
open Go.RowKit Go.Lib in
/-- The same at a slice of length 0 that is not nil, WHATEVER ITS ADDRESS (no cell is asked for): a slice that is not nil and owns nothing comes back. (LAID: no walk: one application.) -/
theorem Tryd.slices_Clone_int_zero (a : Addr) (c : Nat) (w : World) :
    Calls Tryd.prog 48 #[.slice (some a) 0 c] w fun e w' => ∃ v', e = .returned v' ∧ w'.ownsRow w.heap.size 3 1 v' 0 [] ∧ v' ≠ .slice none 0 0 ∧ Below w.heap.size w w' := Any.slices_Clone_int_zero Tryd.laysNm215 a c w
def Tryd.laysNm237_ren : Go.Shelf.Ren := ⟨fun | 37 => 74 | n => n, fun | 3 => 3 | 4 => 4 | n => n, fun | n => n⟩
theorem Tryd.laysNm237 : Go.Proofs.Lays2.n37 Tryd.prog Tryd.laysNm237_ren := {
  mixed := by kernel_rfl
  f37 := Tryd.func74.trans (congrArg some (by kernel_rfl))
  t3 := Tryd.underlying3
  a3 := Tryd.isAgg3
  z3 := Tryd.sizeOf3
  v3 := Tryd.zeroValue3
  t4 := Tryd.underlying4
  a4 := Tryd.isAgg4
  z4 := Tryd.sizeOf4
  v4 := Tryd.zeroValue4 }
open Go.RowKit Go.Lib in
/-- cmp.isNaN[int]: 'x != x': false. (LAID: no walk: one application.) -/
theorem Tryd.cmp_isNaN_int2 (x : Int) (w : World) :
    Calls Tryd.prog 74 #[.int .i64 x] w fun e w' => e = .returned (.bool false) ∧ w' = w := Any.cmp_isNaN_int2 Tryd.laysNm237 x w
open Go.RowKit Go.Lib in
theorem Tryd.slices_Equal_int_lens (a1 a2 : Option Addr) (n c m d : Nat) (w : World) (hnm : n ≠ m) :
    Calls Tryd.prog 33 #[.slice a1 n c, .slice a2 m d] w fun e w' => e = .returned (.bool false) ∧ w' = w := Any.slices_Equal_int_lens Tryd.lays111 a1 a2 n c m d w hnm
def Tryd.laysSlE041_f48_ren : Go.Shelf.Ren := ⟨fun | 41 => 48 | n => n, fun | 22 => 40 | 23 => 3 | 4 => 4 | n => n, fun | n => n⟩
theorem Tryd.laysSlE041_f48 : Go.Proofs.SlLaysE0.n41 Tryd.prog Tryd.laysSlE041_f48_ren := {
  mixed := by kernel_rfl
  f41 := ⟨Tryd.f48.name, by decide, Tryd.func48.trans (congrArg some (by kernel_rfl))⟩
  t4 := Tryd.underlying4
  a4 := Tryd.isAgg4
  z4 := Tryd.sizeOf4
  v4 := Tryd.zeroValue4
  t22 := Tryd.underlying40
  a22 := Tryd.isAgg40
  z22 := Tryd.sizeOf40
  v22 := Tryd.zeroValue40 }
open Go.RowKit Go.Lib in
/-- slices.Clone: "Clone returns a copy of the slice. The elements are copied using assignment, so this is a shallow clone. The result may have additional unused capacity. The result preserves the nilness of s.": OF A SLICE THAT IS NOT nil IT RETURNS A SLICE THAT IS NOT nil, OF THE SAME CELLS, IN MEMORY OF THE CALL's OWN ('ownsRow': the how-to's 6f); below the heap's size at the call all is as it was. (LAID AT THE INSTANCE 'slices.Clone[[]int,int]': no walk: one application.) -/
theorem Tryd.slices_Clone (i0 : TypeInfo) (z : Value) (size bytes : Nat) (hi : Tryd.prog.info? 3 = some i0) (hz0 : i0.zero = some z) (hz1 : i0.size = size) (hz2 : i0.bytes = bytes) (hzs : z.cells.size = size) (hsz : 0 < size) (z23 : ∀ w, (Go.sizeOf 3).run Tryd.prog w = .ok size w) (b off n c : Nat) (news : List Value) (w : World) (hl : news.length = n * size) (hn : n ≤ maxLen) (hbig : n * bytes ≤ 140737488355328) (hc : ∀ j u, news[j]? = some u → w.cell? ⟨b, off + j, none⟩ = some u) (h1 : ∀ u ∈ news, u.oneCell' = true) :
    Calls Tryd.prog 48 #[.slice (some ⟨b, off, none⟩) n c] w fun e w' => ∃ v', e = .returned v' ∧ w'.ownsRow w.heap.size 3 size v' n news ∧ v' ≠ .slice none 0 0 ∧ Below w.heap.size w w' := AnyE.slices_Clone Tryd.laysSlE041_f48 i0 z size bytes hi hz0 hz1 hz2 hzs hsz z23 b off n c news w hl hn hbig hc h1
open Go.RowKit Go.Lib in
/-- The same at nil: nil comes back; the world is as it was; nothing is asked of the element's type. (LAID AT THE INSTANCE 'slices.Clone[[]int,int]': no walk: one application.) -/
theorem Tryd.slices_Clone_nil (n c : Nat) (w : World) :
    Calls Tryd.prog 48 #[.slice none n c] w fun e w' => e = .returned (.slice none 0 0) ∧ w' = w := AnyE.slices_Clone_nil Tryd.laysSlE041_f48 n c w
end Go.Proofs
