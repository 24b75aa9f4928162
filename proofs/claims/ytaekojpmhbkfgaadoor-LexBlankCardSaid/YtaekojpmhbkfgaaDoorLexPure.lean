/- The plain mathematics of layer 1 (lex): what a text's blank, words, numbers, lives and marks are, on lists of bytes. No program is imported. -/
namespace Go.Proofs.YtaekojpmhbkfgaaDoor.LexP

def isLet (c : UInt8) : Bool := (97 ≤ c.toNat && c.toNat ≤ 122) || (65 ≤ c.toNat && c.toNat ≤ 90) || c.toNat == 95
def isDig (c : UInt8) : Bool := 48 ≤ c.toNat && c.toNat ≤ 57
def inWd (c : UInt8) : Bool := isLet c || isDig c
def isBl (c : UInt8) : Bool := c.toNat == 32 || c.toNat == 9 || c.toNat == 10
def inRem (c : UInt8) : Bool := c.toNat != 10
def span (p : UInt8 → Bool) (l : List UInt8) : Nat := (l.takeWhile p).length
def wordN (l : List UInt8) : Nat := if 30 < span inWd l ∨ 0 < span isDig l then 0 else span inWd l
def numN (l : List UInt8) : Nat := if 18 < span isDig l then 0 else span isDig l
def lifeN (l : List UInt8) : Nat := match l with
  | c :: r => if c.toNat = 39 ∧ 0 < wordN r then 1 + wordN r else 0
  | [] => 0
def marks : List UInt8 := [40, 41, 123, 125, 91, 93, 44, 59, 58, 46, 38, 42, 61, 43, 45, 47, 60]
def two (l : List UInt8) : Bool := match l with
  | a :: b :: _ => (a.toNat == 45 && b.toNat == 62) || (a.toNat == 61 && b.toNat == 61)
  | _ => false
def markN (l : List UInt8) : Nat := if two l then 2 else match l with
  | a :: _ => if marks.contains a then 1 else 0
  | [] => 0
def signK (l : List UInt8) : Nat := if 0 < wordN l then 1 else if 0 < numN l then 2 else if 0 < lifeN l then 3 else if 0 < markN l then 4 else 0
def signN (l : List UInt8) : Nat := if 0 < wordN l then wordN l else if 0 < numN l then numN l else if 0 < lifeN l then lifeN l else markN l
/-- how much is blank: 'inside': a remark has begun -/
def skipM : Bool → List UInt8 → Nat
  | _, [] => 0
  | true, c :: r => if c.toNat = 10 then 1 + skipM false r else 1 + skipM true r
  | false, c :: r => if isBl c then 1 + skipM false r else if c.toNat = 47 ∧ r.head?.map (·.toNat) = some 47 then 1 + skipM true r else 0
def skip (l : List UInt8) : Nat := skipM false l
def rem (l : List UInt8) : Bool := match l with
  | a :: b :: _ => a.toNat == 47 && b.toNat == 47
  | _ => false

structure Tok where
  kind : Nat
  at_ : Nat
  text : List UInt8

/-- the tokens from a place on at which no blank is: so many rounds at the most, what has been read, what is left -/
def lexG : Nat → Nat → List UInt8 → List Tok → Sum Nat (List Tok)
  | 0, _, _, acc => .inr acc
  | n + 1, a, l, acc => if l = [] then .inr acc else if signN l = 0 then .inl a else
      lexG n (a + signN l + skip (l.drop (signN l))) ((l.drop (signN l)).drop (skip (l.drop (signN l)))) (acc ++ [⟨signK l, a, l.take (signN l)⟩])
def lexA (l : List UInt8) : Sum Nat (List Tok) := lexG l.length (skip l) (l.drop (skip l)) []

theorem span_le (p : UInt8 → Bool) (l : List UInt8) : span p l ≤ l.length := (List.takeWhile_sublist p).length_le
theorem span_nil (p : UInt8 → Bool) : span p [] = 0 := rfl
theorem span_cons_t (p : UInt8 → Bool) (c : UInt8) (r : List UInt8) (h : p c = true) : span p (c :: r) = span p r + 1 := by simp [span, h]
theorem span_cons_f (p : UInt8 → Bool) (c : UInt8) (r : List UInt8) (h : p c = false) : span p (c :: r) = 0 := by simp [span, h]

theorem skipM_rem : ∀ l : List UInt8, skipM true l = span inRem l + skipM false (l.drop (span inRem l))
  | [] => by simp [skipM, span]
  | c :: r => by
    by_cases h : c.toNat = 10
    · have e : inRem c = false := by simp [inRem, h]
      rw [span_cons_f _ _ _ e]
      simp [skipM, h, isBl]
    · have e : inRem c = true := by simp [inRem, h]
      rw [span_cons_t _ _ _ e]
      simp only [skipM, h, if_false, List.drop_succ_cons]
      rw [skipM_rem r]
      omega
theorem skip_span : ∀ l : List UInt8, skip l = span isBl l + skip (l.drop (span isBl l))
  | [] => by simp [skip, skipM, span]
  | c :: r => by
    by_cases h : isBl c = true
    · rw [span_cons_t _ _ _ h]
      have := skip_span r
      simp only [skip, skipM, h, if_true, List.drop_succ_cons] at this ⊢
      omega
    · have h' : isBl c = false := by simpa using h
      rw [span_cons_f _ _ _ h']
      simp
theorem rem_cons (c : UInt8) (r : List UInt8) : rem (c :: r) = decide (c.toNat = 47 ∧ r.head?.map (·.toNat) = some 47) := by
  cases r with
  | nil => simp [rem]
  | cons b r => simp [rem, Bool.decide_and]; rfl
theorem skip_rem (l : List UInt8) (h : rem l = true) : skip l = span inRem l + skip (l.drop (span inRem l)) := by
  cases l with
  | nil => simp [rem] at h
  | cons c r =>
    rw [rem_cons] at h
    have h1 := of_decide_eq_true h
    have hb : isBl c = false := by simp [isBl, h1.1]
    have e : inRem c = true := by simp [inRem, h1.1]
    have := skipM_rem (c :: r)
    simp only [skip]
    rw [← this]
    simp [skipM, hb, h1]
theorem skip_zero (l : List UInt8) (hb : span isBl l = 0) (hr : rem l = false) : skip l = 0 := by
  cases l with
  | nil => simp [skip, skipM]
  | cons c r =>
    have h1 : isBl c = false := by
      cases e : isBl c with
      | false => rfl
      | true => rw [span_cons_t _ _ _ e] at hb; omega
    rw [rem_cons] at hr
    have h2 := of_decide_eq_false hr
    simp only [skip, skipM, h1, Bool.false_eq_true, if_false, h2]
theorem rem_blank (l : List UInt8) (h : rem l = true) : span isBl l = 0 ∧ 0 < span inRem l := by
  cases l with
  | nil => simp [rem] at h
  | cons c r =>
    rw [rem_cons] at h
    have h1 := of_decide_eq_true h
    have hb : isBl c = false := by simp [isBl, h1.1]
    have e : inRem c = true := by simp [inRem, h1.1]
    rw [span_cons_f _ _ _ hb, span_cons_t _ _ _ e]
    omega
theorem skipM_le : ∀ (b : Bool) (l : List UInt8), skipM b l ≤ l.length
  | b, [] => by cases b <;> simp [skipM]
  | true, c :: r => by
    have h1 := skipM_le true r
    have h2 := skipM_le false r
    simp only [skipM, List.length_cons]
    split <;> omega
  | false, c :: r => by
    have h1 := skipM_le true r
    have h2 := skipM_le false r
    simp only [skipM, List.length_cons]
    split
    · omega
    · split <;> omega
theorem skip_le (l : List UInt8) : skip l ≤ l.length := skipM_le _ _
theorem skip_cons_bl (c : UInt8) (r : List UInt8) (h : isBl c = true) : skip (c :: r) = 1 + skip r := by simp [skip, skipM, h]
/-- no blank stands where the blank ends -/
theorem skip_skip : ∀ (b : Bool) (l : List UInt8), skip (l.drop (skipM b l)) = 0
  | b, [] => by cases b <;> simp [skip, skipM]
  | true, c :: r => by
    have h1 := skip_skip true r
    have h2 := skip_skip false r
    simp only [skipM]
    split <;> (rw [show ∀ n, 1 + n = n + 1 from fun n => by omega, List.drop_succ_cons]; assumption)
  | false, c :: r => by
    have h1 := skip_skip true r
    have h2 := skip_skip false r
    simp only [skipM]
    split
    · rw [show ∀ n, 1 + n = n + 1 from fun n => by omega, List.drop_succ_cons]; assumption
    · split
      · rw [show ∀ n, 1 + n = n + 1 from fun n => by omega, List.drop_succ_cons]; assumption
      · simp only [List.drop_zero, skip, skipM]
        simp_all

theorem wordN_le (l : List UInt8) : wordN l ≤ l.length ∧ wordN l ≤ 30 := by
  have := span_le inWd l
  unfold wordN
  split <;> omega
theorem numN_le (l : List UInt8) : numN l ≤ l.length ∧ numN l ≤ 18 := by
  have := span_le isDig l
  unfold numN
  split <;> omega
theorem lifeN_le (l : List UInt8) : lifeN l ≤ l.length ∧ lifeN l ≤ 31 := by
  cases l with
  | nil => simp [lifeN]
  | cons c r =>
    have := wordN_le r
    simp only [lifeN, List.length_cons]
    split <;> omega
theorem markN_le (l : List UInt8) : markN l ≤ l.length ∧ markN l ≤ 2 := by
  rcases l with _ | ⟨a, _ | ⟨b, r⟩⟩
  · simp [markN, two]
  · simp only [markN, two, Bool.false_eq_true, if_false, List.length_cons, List.length_nil]
    split <;> omega
  · simp only [markN, List.length_cons]
    split
    · omega
    · split <;> omega
theorem signN_le (l : List UInt8) : signN l ≤ l.length ∧ signN l ≤ 31 := by
  have h1 := wordN_le l
  have h2 := numN_le l
  have h3 := lifeN_le l
  have h4 := markN_le l
  unfold signN
  repeat (first | split | omega)
theorem signK_le (l : List UInt8) : signK l ≤ 4 := by
  unfold signK
  repeat (first | split | omega)
theorem signK_zero (l : List UInt8) (h : signN l = 0) : signK l = 0 := by
  unfold signN at h
  unfold signK
  repeat (first | (split at h) | omega)
  simp_all
end Go.Proofs.YtaekojpmhbkfgaaDoor.LexP
