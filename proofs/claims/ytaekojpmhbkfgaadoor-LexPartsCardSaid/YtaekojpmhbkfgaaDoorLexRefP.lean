/- Plain lemmas for the document's answer of layer 1: byte by byte it comes to what the plain functions say. -/
import Derived.Test.YtaekojpmhbkfgaaDoorLexDec
namespace Go.Proofs.YtaekojpmhbkfgaaDoor.LexP
open Go Go.Lib

theorem drop_cons_get {l : List UInt8} {n : Nat} {c : UInt8} (h : l[n]? = some c) : l.drop n = c :: l.drop (n + 1) := by
  have hlt : n < l.length := (List.getElem?_eq_some_iff.1 h).1
  rw [List.drop_eq_getElem_cons hlt, (List.getElem?_eq_some_iff.1 h).2]

/-- so many bytes of a word have been read -/
def WRel (l : List UInt8) (n : Nat) : Prop := n ≤ l.length ∧ span inWd l = n + span inWd (l.drop n) ∧ (0 < n → span isDig l = 0)
theorem wrel_zero (l : List UInt8) : WRel l 0 := ⟨Nat.zero_le _, by simp, fun h => by omega⟩
theorem wrel_step {l : List UInt8} {n : Nat} {c : UInt8} (h : WRel l n) (hc : l[n]? = some c) (ht : rLet c.toNat = true ∨ (0 < n ∧ rDig c.toNat = true)) : WRel l (n + 1) := by
  obtain ⟨h1, h2, h3⟩ := h
  have hlt : n < l.length := (List.getElem?_eq_some_iff.1 hc).1
  have hw : inWd c = true := by
    rcases ht with h | ⟨_, h⟩
    · show (isLet c || isDig c) = true
      rw [show isLet c = rLet c.toNat from rfl, h]; rfl
    · show (isLet c || isDig c) = true
      rw [show isDig c = rDig c.toNat from rfl, h]; simp
  rw [drop_cons_get hc, span_cons_t _ _ _ hw] at h2
  refine ⟨hlt, by omega, fun _ => ?_⟩
  by_cases hn : 0 < n
  · exact h3 hn
  · obtain rfl : n = 0 := by omega
    rcases ht with h | ⟨h, _⟩
    · have e := drop_cons_get hc
      simp only [List.drop_zero] at e
      rw [e, span_cons_f]
      show rDig c.toNat = false
      simp [rLet] at h
      simp [rDig]
      omega
    · omega
theorem wrel_end {l : List UInt8} {n : Nat} (h : WRel l n) (hn : l.length ≤ n) : wordN l = if 30 < n then 0 else n := by
  obtain ⟨h1, h2, h3⟩ := h
  have e : l.drop n = [] := List.drop_eq_nil_of_le hn
  rw [e] at h2
  have h4 : span inWd l = n := by simpa [span] using h2
  unfold wordN
  rw [h4]
  by_cases h0 : 0 < n
  · rw [h3 h0]
    by_cases h5 : 30 < n <;> simp [h5]
  · obtain rfl : n = 0 := by omega
    simp
theorem wrel_stop {l : List UInt8} {n : Nat} {c : UInt8} (h : WRel l n) (hc : l[n]? = some c) (h1 : rLet c.toNat = false) (h2 : ¬ (0 < n ∧ rDig c.toNat = true)) : wordN l = if 30 < n then 0 else n := by
  obtain ⟨k1, k2, k3⟩ := h
  by_cases h0 : 0 < n
  · have hd : rDig c.toNat = false := by
      cases e : rDig c.toNat with
      | false => rfl
      | true => exact absurd ⟨h0, e⟩ h2
    have hw : inWd c = false := by
      show (rLet c.toNat || rDig c.toNat) = false
      rw [h1, hd]; rfl
    rw [drop_cons_get hc, span_cons_f _ _ _ hw] at k2
    have k4 : span inWd l = n := by omega
    unfold wordN
    rw [k4, k3 h0]
    by_cases h5 : 30 < n <;> simp [h5]
  · obtain rfl : n = 0 := by omega
    have e := drop_cons_get hc
    simp only [List.drop_zero] at e
    simp only [Nat.not_lt_zero, if_false]
    unfold wordN
    cases hd : rDig c.toNat with
    | true =>
      have : 0 < span isDig l := by
        rw [e, span_cons_t isDig _ _ hd]; omega
      rw [if_pos (.inr this)]
    | false =>
      have : span inWd l = 0 := by
        rw [e, span_cons_f]
        show (rLet c.toNat || rDig c.toNat) = false
        rw [h1, hd]; rfl
      rw [this]; simp

/-- so many bytes are in a set -/
def SRel (p : UInt8 → Bool) (l : List UInt8) (n : Nat) : Prop := n ≤ l.length ∧ span p l = n + span p (l.drop n)
theorem srel_zero (p : UInt8 → Bool) (l : List UInt8) : SRel p l 0 := ⟨Nat.zero_le _, by simp⟩
theorem srel_step {p : UInt8 → Bool} {l : List UInt8} {n : Nat} {c : UInt8} (h : SRel p l n) (hc : l[n]? = some c) (ht : p c = true) : SRel p l (n + 1) := by
  obtain ⟨h1, h2⟩ := h
  have hlt : n < l.length := (List.getElem?_eq_some_iff.1 hc).1
  rw [drop_cons_get hc, span_cons_t _ _ _ ht] at h2
  exact ⟨hlt, by omega⟩
theorem srel_end {p : UInt8 → Bool} {l : List UInt8} {n : Nat} (h : SRel p l n) (hn : l.length ≤ n) : span p l = n := by
  have e : l.drop n = [] := List.drop_eq_nil_of_le hn
  have := h.2
  rw [e] at this
  simpa [span] using this
theorem srel_stop {p : UInt8 → Bool} {l : List UInt8} {n : Nat} {c : UInt8} (h : SRel p l n) (hc : l[n]? = some c) (ht : p c = false) : span p l = n := by
  have := h.2
  rw [drop_cons_get hc, span_cons_f _ _ _ ht] at this
  omega

/-- the sign that begins with a letter, a digit, a ', or anything else -/
theorem sign_let (c : UInt8) (r : List UInt8) (h : rLet c.toNat = true) : signN (c :: r) = wordN (c :: r) ∧ signK (c :: r) = if 0 < wordN (c :: r) then 1 else 0 := by
  have h1 : rDig c.toNat = false := by simp [rLet] at h; simp [rDig]; omega
  have h2 : span isDig (c :: r) = 0 := span_cons_f _ _ _ h1
  have h3 : numN (c :: r) = 0 := by simp [numN, h2]
  have h4 : ¬ c.toNat = 39 := by simp [rLet] at h; omega
  have h5 : lifeN (c :: r) = 0 := by simp [lifeN, h4]
  have h6 : markN (c :: r) = 0 := by
    have hm : marks.contains c = false := by
      rw [← Bool.not_eq_true]
      intro k
      have : ∀ x ∈ marks, rLet x.toNat = false := by decide
      rw [this c (by simpa using k)] at h
      simp at h
    have ht : two (c :: r) = false := by
      cases r with
      | nil => rfl
      | cons b r =>
        have a1 : (c.toNat == 45) = false := by simp [rLet] at h; simp; omega
        have a2 : (c.toNat == 61) = false := by simp [rLet] at h; simp; omega
        simp [two, a1, a2]
    simp only [markN, ht, hm, Bool.false_eq_true, if_false]
  unfold signN signK
  rw [h3, h5, h6]
  by_cases h0 : 0 < wordN (c :: r)
  · simp [h0]
  · simp [h0]; omega
theorem sign_dig (c : UInt8) (r : List UInt8) (h : rDig c.toNat = true) : signN (c :: r) = numN (c :: r) ∧ signK (c :: r) = if 0 < numN (c :: r) then 2 else 0 := by
  have h2 : 0 < span isDig (c :: r) := by rw [span_cons_t isDig _ _ h]; omega
  have h3 : wordN (c :: r) = 0 := by simp [wordN, h2]
  have h4 : ¬ c.toNat = 39 := by simp [rDig] at h; omega
  have h5 : lifeN (c :: r) = 0 := by simp [lifeN, h4]
  have h6 : markN (c :: r) = 0 := by
    have hm : marks.contains c = false := by
      rw [← Bool.not_eq_true]
      intro k
      have : ∀ x ∈ marks, rDig x.toNat = false := by decide
      rw [this c (by simpa using k)] at h
      simp at h
    have ht : two (c :: r) = false := by
      cases r with
      | nil => rfl
      | cons b r =>
        have a1 : (c.toNat == 45) = false := by simp [rDig] at h; simp; omega
        have a2 : (c.toNat == 61) = false := by simp [rDig] at h; simp; omega
        simp [two, a1, a2]
    simp only [markN, ht, hm, Bool.false_eq_true, if_false]
  unfold signN signK
  rw [h3, h5, h6]
  by_cases h0 : 0 < numN (c :: r)
  · simp [h0]
  · simp [h0]; omega
theorem sign_quote (c : UInt8) (r : List UInt8) (h : c.toNat = 39) : signN (c :: r) = (if 0 < wordN r then 1 + wordN r else 0) ∧ signK (c :: r) = if 0 < wordN r then 3 else 0 := by
  have h1 : rDig c.toNat = false := by rw [h]; rfl
  have h2 : span isDig (c :: r) = 0 := span_cons_f _ _ _ h1
  have hw : span inWd (c :: r) = 0 := span_cons_f _ _ _ (by show (rLet c.toNat || rDig c.toNat) = false; rw [h]; rfl)
  have h3 : numN (c :: r) = 0 := by simp [numN, h2]
  have h4 : wordN (c :: r) = 0 := by simp [wordN, h2, hw]
  have h5 : lifeN (c :: r) = if 0 < wordN r then 1 + wordN r else 0 := by simp [lifeN, h]
  have h6 : markN (c :: r) = 0 := by
    have hm : marks.contains c = false := by
      rw [← Bool.not_eq_true]
      intro k
      have : ∀ x ∈ marks, x.toNat ≠ 39 := by decide
      exact this c (by simpa using k) h
    have ht : two (c :: r) = false := by
      cases r with
      | nil => rfl
      | cons b r => simp [two, h]
    simp only [markN, ht, hm, Bool.false_eq_true, if_false]
  unfold signN signK
  rw [h3, h4, h5, h6]
  by_cases h0 : 0 < wordN r
  · have : 0 < 1 + wordN r := by omega
    simp [h0]
  · simp [h0]
theorem sign_else (c : UInt8) (r : List UInt8) (h1 : rLet c.toNat = false) (h2 : rDig c.toNat = false) (h3 : ¬ c.toNat = 39) : signN (c :: r) = markN (c :: r) ∧ signK (c :: r) = if 0 < markN (c :: r) then 4 else 0 := by
  have a1 : span isDig (c :: r) = 0 := span_cons_f _ _ _ h2
  have hw : span inWd (c :: r) = 0 := span_cons_f _ _ _ (by show (rLet c.toNat || rDig c.toNat) = false; rw [h1, h2]; rfl)
  have a3 : numN (c :: r) = 0 := by simp [numN, a1]
  have a4 : wordN (c :: r) = 0 := by simp [wordN, a1, hw]
  have a5 : lifeN (c :: r) = 0 := by simp [lifeN, h3]
  unfold signN signK
  rw [a3, a4, a5]
  by_cases h0 : 0 < markN (c :: r) <;> simp [h0]

theorem rem_at {L : List UInt8} {a : Nat} {c : UInt8} (hc : L[a]? = some c) : rem (L.drop a) = true ↔ c.toNat = 47 ∧ ∃ d, L[a + 1]? = some d ∧ d.toNat = 47 := by
  rw [drop_cons_get hc, rem_cons]
  simp only [decide_eq_true_eq, Option.map_eq_some_iff, List.head?_drop]
/-- what has been read up to a place, and what is to come, are the whole -/
def FRel (L : List UInt8) (a : Nat) (acc : List Tok) : Prop := ∃ n, L.length ≤ a + n ∧ lexG n (a + skip (L.drop a)) (L.drop (a + skip (L.drop a))) acc = lexA L
theorem frel_start (L : List UInt8) : FRel L 0 [] := ⟨L.length, by omega, by simp [lexA]⟩
theorem frel_blank {L : List UInt8} {a : Nat} {acc : List Tok} {c : UInt8} (h : FRel L a acc) (hc : L[a]? = some c) (hb : isBl c = true) : FRel L (a + 1) acc := by
  obtain ⟨n, h1, h2⟩ := h
  rw [drop_cons_get hc, skip_cons_bl _ _ hb, show a + (1 + skip (L.drop (a + 1))) = a + 1 + skip (L.drop (a + 1)) by omega] at h2
  exact ⟨n, by omega, h2⟩
theorem frel_rem {L : List UInt8} {a : Nat} {acc : List Tok} (h : FRel L a acc) (hr : rem (L.drop a) = true) : FRel L (a + span inRem (L.drop a)) acc := by
  obtain ⟨n, h1, h2⟩ := h
  rw [skip_rem _ hr, List.drop_drop, ← Nat.add_assoc] at h2
  exact ⟨n, by omega, h2⟩
theorem frel_end {L : List UInt8} {a : Nat} {acc : List Tok} (h : FRel L a acc) (ha : L.length ≤ a) : lexA L = .inr acc := by
  obtain ⟨n, h1, h2⟩ := h
  have e : L.drop (a + skip (L.drop a)) = [] := List.drop_eq_nil_of_le (by omega)
  rw [e] at h2
  rw [← h2]
  cases n <;> simp [lexG]
theorem frel_one {L : List UInt8} {a : Nat} {acc : List Tok} {c : UInt8} (h : FRel L a acc) (hc : L[a]? = some c) (hb : isBl c = false) (hr : rem (L.drop a) = false) :
    (signN (L.drop a) = 0 → lexA L = .inl a) ∧ (signN (L.drop a) ≠ 0 → FRel L (a + signN (L.drop a)) (acc ++ [⟨signK (L.drop a), a, (L.drop a).take (signN (L.drop a))⟩])) := by
  obtain ⟨n, h1, h2⟩ := h
  have hlt : a < L.length := (List.getElem?_eq_some_iff.1 hc).1
  have hs : skip (L.drop a) = 0 := skip_zero _ (by rw [drop_cons_get hc, span_cons_f _ _ _ hb]) hr
  have hne : L.drop a ≠ [] := by rw [drop_cons_get hc]; simp
  obtain ⟨m, rfl⟩ : ∃ m, n = m + 1 := ⟨n - 1, by omega⟩
  rw [hs] at h2
  simp only [Nat.add_zero] at h2
  rw [lexG, if_neg hne] at h2
  constructor
  · intro hz
    rw [if_pos hz] at h2
    exact h2.symm
  · intro hz
    rw [if_neg hz, List.drop_drop, List.drop_drop] at h2
    exact ⟨m, by omega, h2⟩
end Go.Proofs.YtaekojpmhbkfgaaDoor.LexP
