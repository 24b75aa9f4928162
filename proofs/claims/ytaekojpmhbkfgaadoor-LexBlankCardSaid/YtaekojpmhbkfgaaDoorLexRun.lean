/- Lexing as a relation, for LexParts and LexBlank: what is lexed stays so behind a line feed, and with blank put in. No program is imported. -/
import Derived.Test.YtaekojpmhbkfgaaDoorLexRefP
namespace Go.Proofs.YtaekojpmhbkfgaaDoor.LexP
open Go Go.Lib

/-- the tokens from a place on, blank ahead passed by -/
inductive Lx : Nat → List UInt8 → List Tok → Prop
  | done (p : Nat) : Lx p [] []
  | blank (p : Nat) (c : UInt8) (r : List UInt8) (ts : List Tok) : isBl c = true → Lx (p + 1) r ts → Lx p (c :: r) ts
  | remark (p : Nat) (l : List UInt8) (ts : List Tok) : rem l = true → Lx (p + span inRem l) (l.drop (span inRem l)) ts → Lx p l ts
  | token (p : Nat) (c : UInt8) (r : List UInt8) (ts : List Tok) : isBl c = false → rem (c :: r) = false → 0 < signN (c :: r) →
      Lx (p + signN (c :: r)) ((c :: r).drop (signN (c :: r))) ts → Lx p (c :: r) (⟨signK (c :: r), p, (c :: r).take (signN (c :: r))⟩ :: ts)

theorem rem_ne {l : List UInt8} (h : rem l = true) : l ≠ [] := by rintro rfl; simp [rem] at h
/-- from the function to the relation -/
theorem lx_of_skip : ∀ (m : Nat) (p : Nat) (l : List UInt8) (ts : List Tok), l.length ≤ m → Lx (p + skip l) (l.drop (skip l)) ts → Lx p l ts
  | m, p, [], ts, _, h => by simpa [skip, skipM] using h
  | 0, p, c :: r, ts, hm, h => by simp at hm
  | m + 1, p, c :: r, ts, hm, h => by
    simp at hm
    by_cases hb : isBl c = true
    · refine Lx.blank p c r ts hb (lx_of_skip m (p + 1) r ts hm ?_)
      rw [skip_cons_bl _ _ hb, show 1 + skip r = skip r + 1 by omega, List.drop_succ_cons] at h
      rwa [show p + 1 + skip r = p + (skip r + 1) by omega]
    · by_cases hr : rem (c :: r) = true
      · have hn := (rem_blank _ hr).2
        refine Lx.remark p (c :: r) ts hr (lx_of_skip m _ _ ts ?_ ?_)
        · rw [List.length_drop, List.length_cons]; omega
        · have e := skip_rem _ hr
          rw [e] at h
          rw [List.drop_drop, show p + span inRem (c :: r) + skip ((c :: r).drop (span inRem (c :: r))) = p + (span inRem (c :: r) + skip ((c :: r).drop (span inRem (c :: r)))) by omega]
          exact h
      · have hz : skip (c :: r) = 0 := skip_zero _ (span_cons_f _ _ _ (by simpa using hb)) (by simpa using hr)
        rw [hz] at h
        simpa using h
theorem lx_of_lexG : ∀ (n p : Nat) (l : List UInt8) (acc ts : List Tok), l.length ≤ n → skip l = 0 → lexG n p l acc = .inr ts → ∃ us, ts = acc ++ us ∧ Lx p l us
  | n, p, [], acc, ts, _, _, h => by
    have : lexG n p [] acc = .inr acc := by cases n <;> simp [lexG]
    rw [this] at h
    simp only [Sum.inr.injEq] at h
    exact ⟨[], by simp [h], .done p⟩
  | 0, p, c :: r, acc, ts, hn, _, h => by simp at hn
  | n + 1, p, c :: r, acc, ts, hn, hs, h => by
    simp at hn
    rw [lexG, if_neg (by simp)] at h
    by_cases hz : signN (c :: r) = 0
    · rw [if_pos hz] at h; cases h
    · rw [if_neg hz] at h
      have hle := (signN_le (c :: r)).1
      obtain ⟨us, h1, h2⟩ := lx_of_lexG n _ _ _ ts (by
        rw [List.length_drop, List.length_drop, List.length_cons]
        omega) (skip_skip false _) h
      have hb : isBl c = false := by
        cases e : isBl c with
        | false => rfl
        | true => rw [skip_cons_bl _ _ e] at hs; omega
      have hr : rem (c :: r) = false := by
        cases e : rem (c :: r) with
        | false => rfl
        | true => have := skip_rem _ e; have := (rem_blank _ e).2; omega
      refine ⟨⟨signK (c :: r), p, (c :: r).take (signN (c :: r))⟩ :: us, by rw [h1]; simp, ?_⟩
      exact Lx.token p c r us hb hr (by omega) (lx_of_skip _ _ _ _ (Nat.le_refl _) h2)
theorem lx_of_lexA {l : List UInt8} {ts : List Tok} (h : lexA l = .inr ts) : Lx 0 l ts := by
  obtain ⟨us, h1, h2⟩ := lx_of_lexG l.length (skip l) (l.drop (skip l)) [] ts (by rw [List.length_drop]; omega) (skip_skip false l) h
  simp at h1
  subst h1
  exact lx_of_skip _ 0 l _ (Nat.le_refl _) (by simpa using h2)
/-- from the relation to the function -/
theorem lexG_of_lx {p : Nat} {l : List UInt8} {ts : List Tok} (h : Lx p l ts) : ∀ (n : Nat) (acc : List Tok), l.length ≤ n → lexG n (p + skip l) (l.drop (skip l)) acc = .inr (acc ++ ts) := by
  induction h with
  | done p => intro n acc _; cases n <;> simp [lexG, skip, skipM]
  | blank p c r ts hb _ ih =>
    intro n acc hn
    rw [skip_cons_bl _ _ hb, show 1 + skip r = skip r + 1 by omega, List.drop_succ_cons, show p + (skip r + 1) = p + 1 + skip r by omega]
    exact ih n acc (by simp at hn; omega)
  | remark p l ts hr _ ih =>
    intro n acc hn
    have := ih n acc (by rw [List.length_drop]; omega)
    rw [skip_rem _ hr]
    rw [List.drop_drop, Nat.add_assoc] at this
    exact this
  | token p c r ts hb hr hz _ ih =>
    intro n acc hn
    have hs : skip (c :: r) = 0 := skip_zero _ (span_cons_f _ _ _ hb) hr
    obtain ⟨m, rfl⟩ : ∃ m, n = m + 1 := ⟨n - 1, by simp at hn; omega⟩
    have hle := (signN_le (c :: r)).1
    rw [hs]
    simp only [Nat.add_zero, List.drop_zero]
    rw [lexG, if_neg (by simp), if_neg (by omega)]
    have := ih m (acc ++ [⟨signK (c :: r), p, (c :: r).take (signN (c :: r))⟩]) (by rw [List.length_drop]; simp at hn ⊢; omega)
    rw [this]
    simp
theorem lexA_of_lx {l : List UInt8} {ts : List Tok} (h : Lx 0 l ts) : lexA l = .inr ts := by
  have := lexG_of_lx h l.length [] (Nat.le_refl _)
  simpa [lexA] using this

/-- what may follow a sign, so that it stays one: a line feed, a blank, a tab, nothing, or what followed it -/
def Ends (x : List UInt8) : Prop := x = [] ∨ ∃ c r, x = c :: r ∧ isBl c = true
theorem span_take (q : UInt8 → Bool) (hq : ∀ c, isBl c = true → q c = false) : ∀ (l x : List UInt8) (z : Nat), span q l ≤ z → (Ends x ∨ x.head? = (l.drop z).head?) → z ≤ l.length → span q (l.take z ++ x) = span q l
  | l, x, 0, h, hx, _ => by
    have h0 : span q l = 0 := by omega
    rw [h0]
    simp only [List.take_zero, List.nil_append]
    rcases hx with (rfl | ⟨c, r, rfl, hc⟩) | hx
    · rfl
    · exact span_cons_f _ _ _ (hq c hc)
    · cases x with
      | nil => rfl
      | cons c r =>
        cases l with
        | nil => simp at hx
        | cons d s =>
          simp at hx
          subst hx
          cases e : q c with
          | false => exact span_cons_f _ _ _ e
          | true => rw [span_cons_t _ _ _ e] at h0; omega
  | [], x, z + 1, _, _, hz => by simp at hz
  | c :: r, x, z + 1, h, hx, hz => by
    rw [List.take_succ_cons, List.cons_append]
    cases e : q c with
    | false => rw [span_cons_f _ _ _ e, span_cons_f _ _ _ e]
    | true =>
      rw [span_cons_t _ _ _ e, span_cons_t _ _ _ e]
      rw [span_cons_t _ _ _ e] at h
      rw [span_take q hq r x z (by omega) (by simpa using hx) (by simpa using hz)]
theorem wd_bl (c : UInt8) (h : isBl c = true) : inWd c = false := by
  have : c.toNat = 32 ∨ c.toNat = 9 ∨ c.toNat = 10 := by simpa [isBl, or_assoc] using h
  show (rLet c.toNat || rDig c.toNat) = false
  rcases this with h | h | h <;> rw [h] <;> rfl
theorem dig_bl (c : UInt8) (h : isBl c = true) : isDig c = false := by
  have : c.toNat = 32 ∨ c.toNat = 9 ∨ c.toNat = 10 := by simpa [isBl, or_assoc] using h
  show rDig c.toNat = false
  rcases this with h | h | h <;> rw [h] <;> rfl
theorem dig_le_wd : ∀ l : List UInt8, span isDig l ≤ span inWd l
  | [] => Nat.le_refl _
  | c :: r => by
    have := dig_le_wd r
    cases e : isDig c with
    | false => rw [span_cons_f _ _ _ e]; omega
    | true => rw [span_cons_t _ _ _ e, span_cons_t inWd _ _ (by simp [inWd, e])]; omega
theorem head_take (r x : List UInt8) (z : Nat) (h : Ends x ∨ x.head? = (r.drop z).head?) : Ends (r.take z ++ x) ∨ (r.take z ++ x).head? = r.head? := by
  cases z with
  | zero => simpa using h
  | succ z =>
    cases r with
    | nil =>
      simp only [List.take_nil, List.nil_append]
      rcases h with h | h
      · exact .inl h
      · exact .inr (by simpa using h)
    | cons c r => right; simp
theorem ends_head (x : List UInt8) (h : Ends x) (n : Nat) (hn : n ≠ 32 ∧ n ≠ 9 ∧ n ≠ 10) : ¬ x.head?.map (·.toNat) = some n := by
  rcases h with rfl | ⟨c, r, rfl, hc⟩
  · simp
  · have : c.toNat = 32 ∨ c.toNat = 9 ∨ c.toNat = 10 := by simpa [isBl, or_assoc] using hc
    simp
    omega
theorem two_head (c : UInt8) (y : List UInt8) : two (c :: y) = decide ((c.toNat = 45 ∧ y.head?.map (·.toNat) = some 62) ∨ (c.toNat = 61 ∧ y.head?.map (·.toNat) = some 61)) := by
  cases y with
  | nil => simp [two]
  | cons b y => rw [Bool.eq_iff_iff]; simp [two]
theorem sign_take (c : UInt8) (r x : List UInt8) (z : Nat) (hz : signN (c :: r) = z + 1) (hr : rem (c :: r) = false) (hx : Ends x ∨ x.head? = (r.drop z).head?) :
    signN (c :: (r.take z ++ x)) = z + 1 ∧ signK (c :: (r.take z ++ x)) = signK (c :: r) ∧ rem (c :: (r.take z ++ x)) = false := by
  have hle : z ≤ r.length := by have := (signN_le (c :: r)).1; simp at this; omega
  have hh := head_take r x z hx
  have hrem : rem (c :: (r.take z ++ x)) = false := by
    rw [rem_cons] at hr ⊢
    have h1 := of_decide_eq_false hr
    refine decide_eq_false ?_
    rintro ⟨k1, k2⟩
    rcases hh with hh | hh
    · exact ends_head _ hh 47 (by omega) k2
    · rw [hh] at k2; exact h1 ⟨k1, k2⟩
  refine ⟨?_, ?_, hrem⟩ <;>
  · cases h1 : rLet c.toNat with
    | true =>
      obtain ⟨a1, a2⟩ := sign_let c r h1
      obtain ⟨b1, b2⟩ := sign_let c (r.take z ++ x) h1
      have hw : wordN (c :: r) = z + 1 := by omega
      have hs : span inWd (c :: r) = z + 1 := by
        unfold wordN at hw
        split at hw
        · omega
        · exact hw
      have e1 := span_take inWd wd_bl (c :: r) x (z + 1) (by omega) (by simpa using hx) (by simpa using hle)
      have e2 := span_take isDig dig_bl (c :: r) x (z + 1) (by have := dig_le_wd (c :: r); omega) (by simpa using hx) (by simpa using hle)
      rw [List.take_succ_cons, List.cons_append] at e1 e2
      have e3 : wordN (c :: (r.take z ++ x)) = wordN (c :: r) := by unfold wordN; rw [e1, e2]
      first | (rw [b1, e3, hw]) | (rw [b2, a2, e3])
    | false =>
      cases h2 : rDig c.toNat with
      | true =>
        obtain ⟨a1, a2⟩ := sign_dig c r h2
        obtain ⟨b1, b2⟩ := sign_dig c (r.take z ++ x) h2
        have hw : numN (c :: r) = z + 1 := by omega
        have hs : span isDig (c :: r) = z + 1 := by
          unfold numN at hw
          split at hw
          · omega
          · exact hw
        have e2 := span_take isDig dig_bl (c :: r) x (z + 1) (by omega) (by simpa using hx) (by simpa using hle)
        rw [List.take_succ_cons, List.cons_append] at e2
        have e3 : numN (c :: (r.take z ++ x)) = numN (c :: r) := by unfold numN; rw [e2]
        first | (rw [b1, e3, hw]) | (rw [b2, a2, e3])
      | false =>
        by_cases h3 : c.toNat = 39
        · obtain ⟨a1, a2⟩ := sign_quote c r h3
          obtain ⟨b1, b2⟩ := sign_quote c (r.take z ++ x) h3
          have hw : wordN r = z ∧ 0 < z := by
            rw [hz] at a1
            split at a1 <;> omega
          have hs : span inWd r = z ∧ span isDig r = 0 := by
            have h4 := hw.1
            unfold wordN at h4
            split at h4
            · omega
            · omega
          have e1 := span_take inWd wd_bl r x z (by omega) hx hle
          have e2 := span_take isDig dig_bl r x z (by omega) hx hle
          have e3 : wordN (r.take z ++ x) = wordN r := by unfold wordN; rw [e1, e2]
          first | (rw [b1, e3, hw.1, if_pos hw.2]; omega) | (rw [b2, a2, e3])
        · obtain ⟨a1, a2⟩ := sign_else c r h1 h2 h3
          obtain ⟨b1, b2⟩ := sign_else c (r.take z ++ x) h1 h2 h3
          have ht : two (c :: (r.take z ++ x)) = two (c :: r) := by
            rw [two_head, two_head]
            congr 1
            rcases hh with hh | hh
            · by_cases hz0 : 0 < z
              · cases r with
                | nil => simp at hle; omega
                | cons d r =>
                  obtain ⟨z', rfl⟩ : ∃ z', z = z' + 1 := ⟨z - 1, by omega⟩
                  simp
              · obtain rfl : z = 0 := by omega
                have k1 := ends_head _ hh 62 (by omega)
                have k2 := ends_head _ hh 61 (by omega)
                have hm : markN (c :: r) = 1 := by omega
                have ht : two (c :: r) = false := by
                  cases e : two (c :: r) with
                  | false => rfl
                  | true => unfold markN at hm; rw [e] at hm; simp at hm
                rw [two_head] at ht
                have h5 := of_decide_eq_false ht
                apply propext
                constructor
                · rintro (⟨_, h⟩ | ⟨_, h⟩)
                  · exact absurd h k1
                  · exact absurd h k2
                · intro h
                  exact absurd h h5
            · rw [hh]
          have e3 : markN (c :: (r.take z ++ x)) = markN (c :: r) := by
            unfold markN
            rw [ht]
          first | (rw [b1, e3]; omega) | (rw [b2, a2, e3])

/-- later by so many bytes -/
def shift (k : Nat) (ts : List Tok) : List Tok := ts.map fun t => ⟨t.kind, t.at_ + k, t.text⟩
theorem lx_shift {p : Nat} {l : List UInt8} {ts : List Tok} (h : Lx p l ts) (k : Nat) : Lx (p + k) l (shift k ts) := by
  induction h with
  | done p => exact .done _
  | blank p c r ts hb _ ih => exact .blank _ _ _ _ hb (by rw [show p + k + 1 = p + 1 + k by omega]; exact ih)
  | remark p l ts hr _ ih => exact .remark _ _ _ hr (by rw [show p + k + span inRem l = p + span inRem l + k by omega]; exact ih)
  | token p c r ts hb hr hz _ ih => exact Lx.token (p + k) c r (shift k ts) hb hr hz (by rw [show p + k + signN (c :: r) = p + signN (c :: r) + k by omega]; exact ih)
theorem span_app (q : UInt8 → Bool) (c : UInt8) (hc : q c = false) (b : List UInt8) : ∀ l : List UInt8, span q (l ++ c :: b) = span q l
  | [] => by simp only [List.nil_append]; rw [span_cons_f _ _ _ hc]; rfl
  | d :: r => by
    rw [List.cons_append]
    cases e : q d with
    | false => rw [span_cons_f _ _ _ e, span_cons_f _ _ _ e]
    | true => rw [span_cons_t _ _ _ e, span_cons_t _ _ _ e, span_app q c hc b r]
/-- two texts, a line feed between -/
theorem lx_parts {p : Nat} {a : List UInt8} {ts : List Tok} (h : Lx p a ts) : ∀ (b : List UInt8) (us : List Tok), Lx (p + a.length + 1) b us → Lx p (a ++ 10 :: b) (ts ++ us) := by
  induction h with
  | done p => intro b us hb; exact .blank _ _ _ _ rfl (by simpa using hb)
  | blank p c r ts hb _ ih => intro b us hu; exact .blank _ _ _ _ hb (ih b us (by rw [show p + 1 + r.length + 1 = p + (c :: r).length + 1 by simp; omega]; exact hu))
  | remark p l ts hr _ ih =>
    intro b us hu
    have hle := span_le inRem l
    have hr2 : rem (l ++ 10 :: b) = true := by
      rcases l with _ | ⟨x, _ | ⟨y, r⟩⟩
      · simp [rem] at hr
      · simp [rem] at hr
      · exact hr
    refine .remark _ _ _ hr2 ?_
    rw [span_app inRem 10 rfl b l, List.drop_append_of_le_length hle]
    refine ih b us ?_
    rw [List.length_drop, show p + span inRem l + (l.length - span inRem l) + 1 = p + l.length + 1 by omega]
    exact hu
  | token p c r ts hb hr hz _ ih =>
    intro b us hu
    obtain ⟨z, hz1⟩ : ∃ z, signN (c :: r) = z + 1 := ⟨signN (c :: r) - 1, by omega⟩
    have hle : z ≤ r.length := by have := (signN_le (c :: r)).1; simp at this; omega
    have hx : Ends (r.drop z ++ 10 :: b) ∨ (r.drop z ++ 10 :: b).head? = (r.drop z).head? := by
      cases e : r.drop z with
      | nil => left; exact .inr ⟨10, b, by simp, rfl⟩
      | cons d s => right; simp
    obtain ⟨s1, s2, s3⟩ := sign_take c r (r.drop z ++ 10 :: b) z hz1 hr hx
    have eL : (c :: r) ++ 10 :: b = c :: (r.take z ++ (r.drop z ++ 10 :: b)) := by rw [← List.append_assoc, List.take_append_drop]; rfl
    rw [hz1] at ih ⊢
    have e1 : (c :: (r.take z ++ (r.drop z ++ 10 :: b))).take (z + 1) = (c :: r).take (z + 1) := by
      rw [List.take_succ_cons, List.take_succ_cons, List.take_append_of_le_length (by rw [List.length_take]; omega), List.take_take, Nat.min_self]
    have e2 : (c :: (r.take z ++ (r.drop z ++ 10 :: b))).drop (z + 1) = (c :: r).drop (z + 1) ++ 10 :: b := by
      rw [List.drop_succ_cons, List.drop_succ_cons, List.drop_append_of_le_length (by rw [List.length_take]; omega), List.drop_eq_nil_of_le (by rw [List.length_take]; omega)]
      simp
    have T := Lx.token p c (r.take z ++ (r.drop z ++ 10 :: b)) (ts ++ us) hb s3 (by omega) (by
      rw [s1, e2]
      refine ih b us ?_
      rw [List.length_drop, show p + (z + 1) + ((c :: r).length - (z + 1)) + 1 = p + (c :: r).length + 1 by simp; omega]
      exact hu)
    rw [s1, s2, e1] at T
    rw [eL, List.cons_append]
    exact T
theorem lexA_parts {a b : List UInt8} {ts us : List Tok} (ha : lexA a = .inr ts) (hb : lexA b = .inr us) : lexA (a ++ 10 :: b) = .inr (ts ++ shift (a.length + 1) us) := by
  refine lexA_of_lx (lx_parts (lx_of_lexA ha) b _ ?_)
  have := lx_shift (lx_of_lexA hb) (a.length + 1)
  simpa using this
end Go.Proofs.YtaekojpmhbkfgaaDoor.LexP
