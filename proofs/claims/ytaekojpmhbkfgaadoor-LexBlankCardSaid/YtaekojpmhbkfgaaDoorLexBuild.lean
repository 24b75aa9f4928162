/- The text that LexBlank makes: blank, or a remark, ahead of each token, and behind; what it is lexed to. No program is imported. -/
import Derived.Test.YtaekojpmhbkfgaaDoorLexRun
namespace Go.Proofs.YtaekojpmhbkfgaaDoor.LexP
open Go Go.Lib

def sep (i : Nat) : List UInt8 := if i % 4 = 0 then [32] else if i % 4 = 1 then [10] else if i % 4 = 2 then [9] else [32, 47, 47, 120, 10]
def build (s : List UInt8) : Nat → Nat → List Tok → List UInt8
  | _, p, [] => s.drop p ++ [10, 47, 47]
  | i, p, t :: ts => (s.drop p).take (t.at_ - p) ++ sep i ++ build s (i + 1) t.at_ ts

theorem sep_cons (i : Nat) : ∃ c r, sep i = c :: r ∧ isBl c = true := by
  unfold sep
  repeat (first | split | exact ⟨_, _, rfl, rfl⟩)
theorem sep_length (i : Nat) : (sep i).length ≤ 5 := by
  unfold sep
  repeat (first | split | (simp; done) | simp)
theorem lx_sep (i : Nat) {q : Nat} {y : List UInt8} {us : List Tok} (h : Lx (q + (sep i).length) y us) : Lx q (sep i ++ y) us := by
  unfold sep at h ⊢
  by_cases h0 : i % 4 = 0
  · simp only [h0, if_true] at h ⊢
    exact .blank _ _ _ _ rfl h
  · by_cases h1 : i % 4 = 1
    · simp only [h1, if_true, show ¬ (1 : Nat) = 0 by omega, if_false] at h ⊢
      exact .blank _ _ _ _ rfl h
    · by_cases h2 : i % 4 = 2
      · simp only [h2, if_true, show ¬ (2 : Nat) = 0 by omega, show ¬ (2 : Nat) = 1 by omega, if_false] at h ⊢
        exact .blank _ _ _ _ rfl h
      · simp only [h0, h1, h2, if_false] at h ⊢
        refine .blank _ _ _ _ rfl (.remark _ _ _ rfl ?_)
        have e : span inRem ([47, 47, 120, 10] ++ y) = 3 := by
          show span inRem (47 :: 47 :: 120 :: 10 :: y) = 3
          rw [span_cons_t _ _ _ rfl, span_cons_t _ _ _ rfl, span_cons_t _ _ _ rfl, span_cons_f _ _ _ rfl]
        have e' : span inRem ([47, 47, 120, 10].append y) = 3 := e
        rw [e']
        exact .blank _ _ _ _ rfl h

/-- all tokens stand from the place on, and within the text -/
theorem lx_ge {p : Nat} {l : List UInt8} {ts : List Tok} (h : Lx p l ts) : ∀ t ∈ ts, p ≤ t.at_ ∧ t.at_ < p + l.length := by
  induction h with
  | done p => intro t ht; cases ht
  | blank p c r ts hb _ ih => intro t ht; have := ih t ht; simp; omega
  | remark p l ts hr _ ih =>
    intro t ht
    have := ih t ht
    have := span_le inRem l
    rw [List.length_drop] at *
    omega
  | token p c r ts hb hr hz _ ih =>
    intro t ht
    rcases List.mem_cons.1 ht with rfl | ht
    · simp
    · have := ih t ht
      have := (signN_le (c :: r)).1
      rw [List.length_drop] at *
      omega
theorem lx_nil {p : Nat} {ts : List Tok} (h : Lx p [] ts) : ts = [] := by
  cases h with
  | done => rfl
  | remark _ _ _ hr _ => simp [rem] at hr
theorem build_step (s : List UInt8) (i p p' : Nat) (ts : List Tok) (hp : p ≤ p') (h : ∀ t ∈ ts, p' ≤ t.at_) : build s i p ts = (s.drop p).take (p' - p) ++ build s i p' ts := by
  have key : s.drop p' = (s.drop p).drop (p' - p) := by rw [List.drop_drop, show p + (p' - p) = p' by omega]
  cases ts with
  | nil =>
    simp only [build]
    rw [key, ← List.append_assoc, List.take_append_drop]
  | cons t ts =>
    have ht := h t (by simp)
    simp only [build]
    rw [show t.at_ - p = (p' - p) + (t.at_ - p') by omega, List.take_add, key]
    simp
/-- what the made text begins with -/
theorem build_head (s : List UInt8) (i p : Nat) (ts : List Tok) (h : Lx p (s.drop p) ts) : Ends (build s i p ts) ∨ (build s i p ts).head? = (s.drop p).head? := by
  cases ts with
  | nil =>
    simp only [build]
    cases e : s.drop p with
    | nil => left; exact .inr ⟨10, [47, 47], rfl, rfl⟩
    | cons c r => right; simp
  | cons t ts =>
    have ht := lx_ge h t (by simp)
    simp only [build]
    by_cases h0 : t.at_ - p = 0
    · left
      rw [h0]
      obtain ⟨c, r, hs, hc⟩ := sep_cons i
      rw [hs]
      exact .inr ⟨c, r ++ build s (i + 1) t.at_ ts, by simp, hc⟩
    · right
      cases e : s.drop p with
      | nil => rw [e] at ht; simp at ht; omega
      | cons c r =>
        obtain ⟨n, hn⟩ : ∃ n, t.at_ - p = n + 1 := ⟨t.at_ - p - 1, by omega⟩
        rw [hn]
        simp

/-- the same tokens, at places at least as great -/
inductive Like : List Tok → List Tok → Prop
  | nil : Like [] []
  | cons (t u : Tok) (ts us : List Tok) : u.kind = t.kind → u.text = t.text → t.at_ ≤ u.at_ → Like ts us → Like (t :: ts) (u :: us)
theorem Like.length {ts us : List Tok} (h : Like ts us) : us.length = ts.length := by
  induction h with
  | nil => rfl
  | cons _ _ _ _ _ _ _ _ ih => simp [ih]
theorem Like.get {ts us : List Tok} (h : Like ts us) : ∀ (i : Nat) (t : Tok), ts[i]? = some t → ∃ u, us[i]? = some u ∧ u.kind = t.kind ∧ u.text = t.text ∧ t.at_ ≤ u.at_ := by
  induction h with
  | nil => intro i t ht; simp at ht
  | cons a b ts us h1 h2 h3 _ ih =>
    intro i t ht
    cases i with
    | zero => simp at ht; subst ht; exact ⟨b, by simp, h1, h2, h3⟩
    | succ i => simpa using ih i t (by simpa using ht)

theorem lx_build (s : List UInt8) {p : Nat} {l : List UInt8} {ts : List Tok} (h : Lx p l ts) : l = s.drop p → ∀ (i q : Nat), p ≤ q → ∃ us, Lx q (build s i p ts) us ∧ Like ts us := by
  induction h with
  | done p =>
    intro hl i q hq
    refine ⟨[], ?_, .nil⟩
    simp only [build]
    rw [← hl]
    refine .blank _ _ _ _ rfl (.remark _ _ _ rfl ?_)
    exact .done _
  | blank p c r ts hb hr' ih =>
    intro hl i q hq
    have hl2 : r = s.drop (p + 1) := by
      rw [← List.drop_drop, ← hl]; rfl
    obtain ⟨us, h1, h2⟩ := ih hl2 i (q + 1) (by omega)
    refine ⟨us, ?_, h2⟩
    rw [build_step s i p (p + 1) ts (by omega) (fun t ht => (lx_ge hr' t ht).1), ← hl, show p + 1 - p = 1 by omega]
    exact .blank _ _ _ _ hb h1
  | remark p l ts hr hr' ih =>
    intro hl i q hq
    obtain ⟨n, hn⟩ : ∃ n, span inRem l = n := ⟨_, rfl⟩
    have hn2 : 2 ≤ n ∧ ∃ a b r, l = a :: b :: r := by
      rcases l with _ | ⟨a, _ | ⟨b, r⟩⟩
      · simp [rem] at hr
      · simp [rem] at hr
      · have : a.toNat = 47 ∧ b.toNat = 47 := by simpa [rem] using hr
        have ea : inRem a = true := by simp [inRem, this.1]
        have eb : inRem b = true := by simp [inRem, this.2]
        rw [span_cons_t _ _ _ ea, span_cons_t _ _ _ eb] at hn
        exact ⟨by omega, _, _, _, rfl⟩
    have hle := span_le inRem l
    rw [hn] at ih hr' hle
    have hl2 : l.drop n = s.drop (p + n) := by rw [← List.drop_drop, ← hl]
    obtain ⟨us, h1, h2⟩ := ih hl2 i (q + n) (by omega)
    refine ⟨us, ?_, h2⟩
    rw [build_step s i p (p + n) ts (by omega) (fun t ht => (lx_ge hr' t ht).1), ← hl, show p + n - p = n by omega]
    obtain ⟨x, hx⟩ : ∃ x, build s i (p + n) ts = x := ⟨_, rfl⟩
    have hx2 : ∃ c r, x = c :: r ∧ c.toNat = 10 := by
      cases e : l.drop n with
      | nil =>
        rw [e] at hr'
        rw [lx_nil hr'] at hx
        simp only [build] at hx
        rw [← hl2, e] at hx
        exact ⟨10, [47, 47], hx.symm, rfl⟩
      | cons d r =>
        have hd : inRem d = false := by
          cases e2 : inRem d with
          | false => rfl
          | true =>
            have k := span_steps inRem l (n + 1) 0 (fun j h0 hj => by
              by_cases hjn : j < n
              · obtain ⟨c, hc⟩ : ∃ c, l[j]? = some c := ⟨l[j]'(by omega), List.getElem?_eq_getElem _⟩
                refine ⟨c, hc, ?_⟩
                have : ∀ (m : Nat) (l : List UInt8) (j : Nat) (c : UInt8), j < span inRem l → l[j]? = some c → inRem c = true := by
                  intro m l
                  induction l with
                  | nil => intro j c hj hc; simp at hc
                  | cons y l ihl =>
                    intro j c hj hc
                    cases e3 : inRem y with
                    | false => rw [span_cons_f _ _ _ e3] at hj; omega
                    | true =>
                      rw [span_cons_t _ _ _ e3] at hj
                      cases j with
                      | zero => simp at hc; subst hc; exact e3
                      | succ j => exact ihl j c (by omega) (by simpa using hc)
                exact this 0 l j c (by omega) hc
              · obtain rfl : j = n := by omega
                refine ⟨d, ?_, e2⟩
                have := congrArg (·[0]?) e
                simpa [List.getElem?_drop] using this)
            simp at k
            omega
        have hd10 : d.toNat = 10 := by simpa [inRem] using hd
        have hbd : isBl d = true := by simp [isBl, hd10]
        rw [e] at hr'
        have hge : ∀ t ∈ ts, p + n + 1 ≤ t.at_ := by
          cases hr' with
          | blank _ _ _ _ _ h3 => exact fun t ht => (lx_ge h3 t ht).1
          | remark _ _ _ h3 _ => rw [rem_cons] at h3; have := (of_decide_eq_true h3).1; omega
          | token _ _ _ _ h3 _ _ _ => rw [hbd] at h3; cases h3
        rw [build_step s i (p + n) (p + n + 1) ts (by omega) hge, ← hl2, e, show p + n + 1 - (p + n) = 1 by omega] at hx
        exact ⟨d, build s i (p + n + 1) ts, by rw [← hx]; rfl, hd10⟩
    rw [hx] at h1 ⊢
    obtain ⟨c, r, rfl, hc⟩ := hx2
    obtain ⟨hn2, a, b, r', rfl⟩ := hn2
    obtain ⟨m, rfl⟩ : ∃ m, n = m + 2 := ⟨n - 2, by omega⟩
    have hsp : span inRem ((a :: b :: r').take (m + 2) ++ c :: r) = m + 2 := by
      have k := span_app inRem c (by simp [inRem, hc]) r ((a :: b :: r').take (m + 2))
      rw [k]
      have tk : ∀ (l : List UInt8) (z : Nat), span inRem l = z → span inRem (l.take z) = z := by
        intro l
        induction l with
        | nil => intro z hz; subst hz; rfl
        | cons y l ihl =>
          intro z hz
          cases e3 : inRem y with
          | false => rw [span_cons_f _ _ _ e3] at hz; subst hz; rfl
          | true =>
            rw [span_cons_t _ _ _ e3] at hz
            obtain ⟨z', rfl⟩ : ∃ z', z = z' + 1 := ⟨z - 1, by omega⟩
            rw [List.take_succ_cons, span_cons_t _ _ _ e3, ihl z' (by omega)]
      exact tk _ _ hn
    refine .remark _ _ _ ?_ ?_
    · simp only [List.take_succ_cons, List.cons_append]
      exact hr
    · rw [hsp, List.drop_append_of_le_length (by rw [List.length_take]; omega), List.drop_eq_nil_of_le (by rw [List.length_take]; omega), List.nil_append]
      exact h1
  | token p c r ts hb hr hz hr' ih =>
    intro hl i q hq
    obtain ⟨z, hz1⟩ : ∃ z, signN (c :: r) = z + 1 := ⟨signN (c :: r) - 1, by omega⟩
    have hle : z ≤ r.length := by have := (signN_le (c :: r)).1; simp at this; omega
    rw [hz1] at ih hr' ⊢
    have hl2 : (c :: r).drop (z + 1) = s.drop (p + (z + 1)) := by rw [hl, List.drop_drop]
    have hge : ∀ t ∈ ts, p + (z + 1) ≤ t.at_ := fun t ht => (lx_ge hr' t ht).1
    rw [hl2] at hr'
    have hx := build_head s (i + 1) (p + (z + 1)) ts hr'
    rw [← hl2, List.drop_succ_cons] at hx
    obtain ⟨s1, s2, s3⟩ := sign_take c r (build s (i + 1) (p + (z + 1)) ts) z hz1 hr hx
    obtain ⟨us, h1, h2⟩ := ih hl2 (i + 1) (q + (sep i).length + (z + 1)) (by omega)
    have e1 : (c :: (r.take z ++ build s (i + 1) (p + (z + 1)) ts)).take (z + 1) = (c :: r).take (z + 1) := by
      rw [List.take_succ_cons, List.take_succ_cons, List.take_append_of_le_length (by rw [List.length_take]; omega), List.take_take, Nat.min_self]
    have e2 : (c :: (r.take z ++ build s (i + 1) (p + (z + 1)) ts)).drop (z + 1) = build s (i + 1) (p + (z + 1)) ts := by
      rw [List.drop_succ_cons, List.drop_append_of_le_length (by rw [List.length_take]; omega), List.drop_eq_nil_of_le (by rw [List.length_take]; omega), List.nil_append]
    have T := Lx.token (q + (sep i).length) c (r.take z ++ build s (i + 1) (p + (z + 1)) ts) us hb s3 (by omega) (by rw [s1, e2]; exact h1)
    rw [s1, s2, e1] at T
    refine ⟨Tok.mk (signK (c :: r)) (q + (sep i).length) ((c :: r).take (z + 1)) :: us, ?_, .cons _ _ _ _ rfl rfl (by show p ≤ q + (sep i).length; omega) h2⟩
    · simp only [build]
      rw [show p - p = 0 by omega, List.take_zero, List.nil_append]
      refine lx_sep i ?_
      rw [build_step s (i + 1) p (p + (z + 1)) ts (by omega) hge, ← hl, show p + (z + 1) - p = z + 1 by omega, List.take_succ_cons, List.cons_append]
      exact T
theorem build_length (s : List UInt8) {p : Nat} {l : List UInt8} {ts : List Tok} (h : Lx p l ts) : l = s.drop p → ∀ (i : Nat), (build s i p ts).length ≤ l.length + 5 * ts.length + 3 := by
  induction h with
  | done p => intro hl i; simp only [build]; rw [← hl]; simp
  | blank p c r ts hb hr' ih =>
    intro hl i
    have hl2 : r = s.drop (p + 1) := by rw [← List.drop_drop, ← hl]; rfl
    have := ih hl2 i
    rw [build_step s i p (p + 1) ts (by omega) (fun t ht => (lx_ge hr' t ht).1), ← hl, show p + 1 - p = 1 by omega]
    simp
    omega
  | remark p l ts hr hr' ih =>
    intro hl i
    have hle := span_le inRem l
    have hl2 : l.drop (span inRem l) = s.drop (p + span inRem l) := by rw [← List.drop_drop, ← hl]
    have := ih hl2 i
    rw [build_step s i p (p + span inRem l) ts (by omega) (fun t ht => (lx_ge hr' t ht).1), ← hl, show p + span inRem l - p = span inRem l by omega, List.length_append, List.length_take]
    rw [List.length_drop] at this
    omega
  | token p c r ts hb hr hz hr' ih =>
    intro hl i
    have hle := (signN_le (c :: r)).1
    have hl2 : (c :: r).drop (signN (c :: r)) = s.drop (p + signN (c :: r)) := by rw [← List.drop_drop, ← hl]
    have := ih hl2 (i + 1)
    have hs := sep_length i
    simp only [build]
    rw [show p - p = 0 by omega, List.take_zero, List.nil_append]
    rw [build_step s (i + 1) p (p + signN (c :: r)) ts (by omega) (fun t ht => (lx_ge hr' t ht).1), ← hl, show p + signN (c :: r) - p = signN (c :: r) by omega, List.length_append, List.length_append, List.length_take]
    rw [List.length_drop] at this
    simp only [List.length_cons] at *
    omega
end Go.Proofs.YtaekojpmhbkfgaaDoor.LexP
