/- Texts joined: LexLex, LexRefP, LexRef, TreeRA. -/
import Derived.Test.YtemflcojebanlaaGreatDoorJ01
import Derived.Test.YtemflcojebanlaaGreatDoorJ00
/- The contract of lex.Lex: any bytes are the tokens that the plain function lexA gives, or the fault that it tells. -/
namespace Go.Proofs.YtemflcojebanlaaGreatDoor.LexC
open Go Go.RowKit Go.Lib LexP

/-- what is owned stays owned behind a call that lets the memory there alone -/
theorem owns_below {W W1 : World} {base : Nat} {e : TypeId} {size : Nat} {v : Value} {n : Nat} {xs : List Value} (h : W.ownsRow base e size v n xs) (hb : Below W.heap.size W W1) : W1.ownsRow base e size v n xs := by
 refine ⟨h.1, ?_⟩
 rcases h.2 with hn | ⟨g, cap, cur, rfl, hg1, hg2, rest⟩
 ·exact .inl hn
 ·refine .inr ⟨g, cap, cur, rfl, hg1, ?_, rest⟩
  rw [hb.block g (Array.getElem?_eq_some_iff.1 hg2).1]
  exact hg2

def tokCells (t : Tok) : List Value := [.int .i64 (t.kind : Int), .int .i64 (t.at_ : Int), .string ⟨t.text.toArray⟩]
def rowOf (l : List Tok) : List Value := l.flatMap tokCells
theorem rowOf_snoc (l : List Tok) (t : Tok) : rowOf (l ++ [t]) = rowOf l ++ tokCells t := by simp [rowOf]

theorem tok_info : (Tryz.prog.info? 102).map (fun i => (i.zero, i.size, i.bytes)) = some (some (.agg #[.int .i64 0, .int .i64 0, .string ⟨#[]⟩]), 3, 32) := by kernel_rfl

def LexPost (r : Sum Nat (List Tok)) (w : World) (e : Ending) (w' : World) : Prop :=
 Below w.heap.size w w' ∧ match r with
 | .inl p => ∃ b, w.heap.size ≤ b ∧ e = .returned (.tuple #[.slice none 0 0, .iface 56 (.pointer (some ⟨b, 0, none⟩))]) ∧ w'.heap[b]? = some (.cells #[.int .i64 (p : Int), .iface 55 (.int .i64 1)] 58 (0, 0))
 | .inr toks => ∃ v, e = .returned (.tuple #[v, .nilIface]) ∧ w'.ownsRow w.heap.size 102 3 v toks.length (rowOf toks)

set_option maxHeartbeats 4000000 in
set_option maxRecDepth 100000 in
theorem lex_any (s : ByteArray) (w : World) (hs : s.size ≤ 20000) (T : Lib.Utf8Tabs 1 2 w) :
  Calls Tryz.prog 96 #[.string s] w fun e w' => LexPost (lexA s.data.toList) w e w' := by
 obtain ⟨i0, hi, hz0, hz1, hz2⟩ := info_parts tok_info
 have HSZ := hid (Lib.size_eq s)
 have hk := skip_le s.data.toList
 rw [← Lib.size_eq] at hk
 have C0 : Hid _ := hid (blank_any s w (by omega))
 go_enter Tryz.func96, Tryz.ntmps96
 go_wp2_with fail
 refine C0.out.mono ?_
 rintro e W0 ⟨rfl, hb0⟩
 go_wp2_with fail
 go_loopg [4, 5] s.size (fun gf v u wx => ∃ (a : Nat) (acc : List Tok), u = .int .i64 (a : Int) ∧ a ≤ s.size ∧ s.size ≤ a + gf ∧ acc.length ≤ a ∧
  Hid (lexG gf a (s.data.toList.drop a) acc = lexA s.data.toList) ∧ Below w.heap.size w wx ∧ Hid (wx.ownsRow w.heap.size 102 3 v acc.length (rowOf acc)))
 case atStart => exact ⟨skip s.data.toList, [], rfl, hk, by omega, by simp, hid (by rw [lexA, ← Lib.size_eq]), hb0, hid (World.ownsRow_nil _ _ _ _)⟩
 case round =>
  obtain ⟨a, acc, rfl, ha, hg, hacc, HL, hb, HO⟩ := hrel
  by_cases hlt : a < s.size
  ·obtain ⟨g', rfl⟩ : ∃ g', gk = g' + 1 := ⟨gk - 1, by omega⟩
   have t1 := tail_list s a
   have hne : s.data.toList.drop a ≠ [] := by
    intro e
    have := congrArg List.length e
    rw [List.length_drop, ← Lib.size_eq] at this
    simp at this
    omega
   have c1 : ∀ W, Below w.heap.size w W → Calls Tryz.prog 119 _ W _ := fun W h => sign_any (s.extract a s.size) W (by simp; omega) (by simp; omega) (Utf8Tabs_below T h)
   rw [t1] at c1
   have hl := signN_le (s.data.toList.drop a)
   rw [List.length_drop, ← Lib.size_eq] at hl
   have H0 := HL.out
   rw [lexG, if_neg hne] at H0
   have htxt : ∀ b, s.extract a (a + b) = ⟨((s.data.toList.drop a).take b).toArray⟩ := fun b => by rw [Lib.extract_eq]; simp
   obtain ⟨z, hz⟩ : ∃ z, signN (s.data.toList.drop a) = z := ⟨_, rfl⟩
   obtain ⟨k, hk⟩ : ∃ k, signK (s.data.toList.drop a) = k := ⟨_, rfl⟩
   rw [hz, hk] at c1
   rw [hz] at hl
   rw [hz, hk, List.drop_drop, List.drop_drop] at H0
   have C1 := hid c1
   clear c1 HL t1 hne
   by_cases hz0' : z = 0
   ·rw [if_pos hz0'] at H0
    subst hz0'
    have HR := hid H0
    have HH := hid htxt
    clear H0 htxt hz hk hl
    go_wp2_with fail
    refine (C1.out _ (by assumption)).mono ?_
    rintro e W1 ⟨rfl, hb1⟩
    have B := hb.trans (hb1.mono hb.size)
    clear hb hb1
    go_wp2_with fail
    go_ret2
    rw [← HR.out]
    exact ⟨B.alloc B.size _, W1.heap.size, B.size, rfl, heap_alloc_new _ _⟩
   ·rw [if_neg hz0'] at H0
    have t2 := tail_list s (a + z)
    have c2 : ∀ W, Calls Tryz.prog 118 _ W _ := fun W => blank_any (s.extract (a + z) s.size) W (by simp; omega)
    rw [t2] at c2
    have hl2 := skip_le (s.data.toList.drop (a + z))
    rw [List.length_drop, ← Lib.size_eq] at hl2
    obtain ⟨b, hb'⟩ : ∃ b, skip (s.data.toList.drop (a + z)) = b := ⟨_, rfl⟩
    rw [hb'] at c2 H0 hl2
    have C2 := hid c2
    have HR := hid H0
    have HH := hid (htxt z)
    have hzi : ¬ ((z : Int) = 0) := by omega
    clear H0 htxt hz hk c2 hb' t2
    go_wp2_with fail
    refine (C1.out _ (by assumption)).mono ?_
    rintro e W1 ⟨rfl, hb1⟩
    have B := hb.trans (hb1.mono hb.size)
    have HO1 := hid (owns_below HO.out hb1)
    clear hb hb1 HO
    go_wp2_with (at_builtin; refine wpList_append_own _ rfl _ _ 94 rfl w.heap.size 102 i0 _ 3 32 Tryz.underlying94 hi hz0 hz1 hz2 rfl (by decide) _ _ _ rfl (HO1.out.alloc _) ⟨W1.heap.size, 0, none⟩ 1 1 [.int .i64 (k : Int), .int .i64 (a : Int), .string (s.extract a (a + z))] rfl rfl ?c1 ?c2 ?c3 ?c4 ?c5 ?_)
    case c1 =>
     intro j u hj
     match j, hj with
     | 0, hj => simp at hj; subst hj; simp [Addr.add]
     | 1, hj => simp at hj; subst hj; simp [Addr.add]
     | 2, hj => simp at hj; subst hj; simp [Addr.add]
    case c2 => intro u hu; simp at hu; rcases hu with rfl | rfl | rfl <;> rfl
    case c3 => unfold maxLen; omega
    case c4 => omega
    case c5 => have := B.size; simp; omega
    intro v' w2 hown' hgrow _
    have B2 : Below w.heap.size w w2 := (B.alloc B.size _).grown hgrow (by have := B.size; simp; omega) (fun i hi => (HO1.out.lt i hi).1)
    have HO2 : Hid (w2.ownsRow w.heap.size 102 3 v' (acc ++ [Tok.mk k a ((s.data.toList.drop a).take z)]).length (rowOf (acc ++ [Tok.mk k a ((s.data.toList.drop a).take z)]))) := by
     rw [rowOf_snoc, List.length_append]
     unfold tokCells
     rw [← HH.out]
     exact hid hown'
    clear hown' hgrow HO1 B HH
    go_wp2_with fail
    refine (C2.out _).mono ?_
    rintro e W3 ⟨rfl, hb3⟩
    have B3 := B2.trans (hb3.mono B2.size)
    have HO3 := hid (owns_below HO2.out hb3)
    clear HO2 B2 hb3
    go_wp2_with fail
    go_roundg g'
    case measure => omega
    case rel => exact ⟨a + z + b, acc ++ [Tok.mk k a ((s.data.toList.drop a).take z)], by go_num, by omega, by omega, by simp; omega, HR, B3, HO3⟩
  ·have H0 := HL.out
   have e0 : s.data.toList.drop a = [] := List.drop_eq_nil_of_le (by rw [← Lib.size_eq]; omega)
   rw [e0] at H0
   have e1 : lexG gk a [] acc = .inr acc := by cases gk <;> simp [lexG]
   rw [e1] at H0
   have HR := hid H0
   clear H0 e0 e1 HL
   go_wp2_with fail
   go_ret2
   rw [← HR.out]
   exact ⟨hb, _, rfl, HO.out⟩
end Go.Proofs.YtemflcojebanlaaGreatDoor.LexC
/- Plain lemmas for the document's answer of layer 1: byte by byte it comes to what the plain functions say. -/
namespace Go.Proofs.YtemflcojebanlaaGreatDoor.LexP
open Go Go.Lib

theorem drop_cons_get {l : List UInt8} {n : Nat} {c : UInt8} (h : l[n]? = some c) : l.drop n = c :: l.drop (n + 1) := by
 have hlt : n < l.length := (List.getElem?_eq_some_iff.1 h).1
 rw [List.drop_eq_getElem_cons hlt, (List.getElem?_eq_some_iff.1 h).2]

/-- so many bytes of a word have been read -/
def WRel (l : List UInt8) (n : Nat) : Prop := n ≤ l.length ∧ span inWd l = n + span inWd (l.drop n) ∧ (0 < n → span isDig l = 0)
theorem wrel_zero (l : List UInt8) : WRel l 0 := ⟨Nat.zero_le _, by simp, fun h => by omega⟩
theorem wrel_step {l : List UInt8} {n : Nat} {c : UInt8} (h : WRel l n) (hc : l[n]? = some c) (ht : rLet c.toNat = true ∨ (0 < n ∧ rDig c.toNat = true)) : WRel l (n + 1) := by
 obtain ⟨h1, h2, h3⟩ := h
 have hlt : n < l.length := (List.getElem?_eq_some_iff.1 hc).1
 have hw : inWd c = true := by
  rcases ht with h | ⟨_, h⟩
  ·show (isLet c || isDig c) = true
   rw [show isLet c = rLet c.toNat from rfl, h]; rfl
  ·show (isLet c || isDig c) = true
   rw [show isDig c = rDig c.toNat from rfl, h]; simp
 rw [drop_cons_get hc, span_cons_t _ _ _ hw] at h2
 refine ⟨hlt, by omega, fun _ => ?_⟩
 by_cases hn : 0 < n
 ·exact h3 hn
 ·obtain rfl : n = 0 := by omega
  rcases ht with h | ⟨h, _⟩
  ·have e := drop_cons_get hc
   simp only [List.drop_zero] at e
   rw [e, span_cons_f]
   show rDig c.toNat = false
   simp [rLet] at h
   simp [rDig]
   omega
  ·omega
theorem wrel_end {l : List UInt8} {n : Nat} (h : WRel l n) (hn : l.length ≤ n) : wordN l = if 30 < n then 0 else n := by
 obtain ⟨h1, h2, h3⟩ := h
 have e : l.drop n = [] := List.drop_eq_nil_of_le hn
 rw [e] at h2
 have h4 : span inWd l = n := by simpa [span] using h2
 unfold wordN
 rw [h4]
 by_cases h0 : 0 < n
 ·rw [h3 h0]
  by_cases h5 : 30 < n <;> simp [h5]
 ·obtain rfl : n = 0 := by omega
  simp
theorem wrel_stop {l : List UInt8} {n : Nat} {c : UInt8} (h : WRel l n) (hc : l[n]? = some c) (h1 : rLet c.toNat = false) (h2 : ¬ (0 < n ∧ rDig c.toNat = true)) : wordN l = if 30 < n then 0 else n := by
 obtain ⟨k1, k2, k3⟩ := h
 by_cases h0 : 0 < n
 ·have hd : rDig c.toNat = false := by
   cases e : rDig c.toNat with
   | false => rfl
   | true => exact absurd ⟨h0, e⟩ h2
  have hw : inWd c = false := by
   show (rLet c.toNat || rDig c.toNat) = false
   rw [h1, hd]; rfl
  rw [drop_cons_get hc, span_cons_f _ _ _ hw] at k2
  have k4 : span inWd l = n := by omega
  unfold wordN
  rw [k4, k3 h0]
  by_cases h5 : 30 < n <;> simp [h5]
 ·obtain rfl : n = 0 := by omega
  have e := drop_cons_get hc
  simp only [List.drop_zero] at e
  simp only [Nat.not_lt_zero, if_false]
  unfold wordN
  cases hd : rDig c.toNat with
  | true =>
   have : 0 < span isDig l := by
    rw [e, span_cons_t isDig _ _ hd]; omega
   rw [if_pos (.inr this)]
  | false =>
   have : span inWd l = 0 := by
    rw [e, span_cons_f]
    show (rLet c.toNat || rDig c.toNat) = false
    rw [h1, hd]; rfl
   rw [this]; simp

/-- so many bytes are in a set -/
def SRel (p : UInt8 → Bool) (l : List UInt8) (n : Nat) : Prop := n ≤ l.length ∧ span p l = n + span p (l.drop n)
theorem srel_zero (p : UInt8 → Bool) (l : List UInt8) : SRel p l 0 := ⟨Nat.zero_le _, by simp⟩
theorem srel_step {p : UInt8 → Bool} {l : List UInt8} {n : Nat} {c : UInt8} (h : SRel p l n) (hc : l[n]? = some c) (ht : p c = true) : SRel p l (n + 1) := by
 obtain ⟨h1, h2⟩ := h
 have hlt : n < l.length := (List.getElem?_eq_some_iff.1 hc).1
 rw [drop_cons_get hc, span_cons_t _ _ _ ht] at h2
 exact ⟨hlt, by omega⟩
theorem srel_end {p : UInt8 → Bool} {l : List UInt8} {n : Nat} (h : SRel p l n) (hn : l.length ≤ n) : span p l = n := by
 have e : l.drop n = [] := List.drop_eq_nil_of_le hn
 have := h.2
 rw [e] at this
 simpa [span] using this
theorem srel_stop {p : UInt8 → Bool} {l : List UInt8} {n : Nat} {c : UInt8} (h : SRel p l n) (hc : l[n]? = some c) (ht : p c = false) : span p l = n := by
 have := h.2
 rw [drop_cons_get hc, span_cons_f _ _ _ ht] at this
 omega

/-- the sign that begins with a letter, a digit, a ', or anything else -/
theorem sign_let (c : UInt8) (r : List UInt8) (h : rLet c.toNat = true) : signN (c :: r) = wordN (c :: r) ∧ signK (c :: r) = if 0 < wordN (c :: r) then 1 else 0 := by
 have h1 : rDig c.toNat = false := by simp [rLet] at h; simp [rDig]; omega
 have h2 : span isDig (c :: r) = 0 := span_cons_f _ _ _ h1
 have h3 : numN (c :: r) = 0 := by simp [numN, h2]
 have h4 : ¬ c.toNat = 39 := by simp [rLet] at h; omega
 have h5 : lifeN (c :: r) = 0 := by simp [lifeN, h4]
 have h6 : markN (c :: r) = 0 := by
  have hm : marks.contains c = false := by
   rw [← Bool.not_eq_true]
   intro k
   have : ∀ x ∈ marks, rLet x.toNat = false := by decide
   rw [this c (by simpa using k)] at h
   simp at h
  have ht : two (c :: r) = false := by
   cases r with
   | nil => rfl
   | cons b r =>
    have a1 : (c.toNat == 45) = false := by simp [rLet] at h; simp; omega
    have a2 : (c.toNat == 61) = false := by simp [rLet] at h; simp; omega
    simp [two, a1, a2]
  simp only [markN, ht, hm, Bool.false_eq_true, if_false]
 unfold signN signK
 rw [h3, h5, h6]
 by_cases h0 : 0 < wordN (c :: r)
 ·simp [h0]
 ·simp [h0]; omega
theorem sign_dig (c : UInt8) (r : List UInt8) (h : rDig c.toNat = true) : signN (c :: r) = numN (c :: r) ∧ signK (c :: r) = if 0 < numN (c :: r) then 2 else 0 := by
 have h2 : 0 < span isDig (c :: r) := by rw [span_cons_t isDig _ _ h]; omega
 have h3 : wordN (c :: r) = 0 := by simp [wordN, h2]
 have h4 : ¬ c.toNat = 39 := by simp [rDig] at h; omega
 have h5 : lifeN (c :: r) = 0 := by simp [lifeN, h4]
 have h6 : markN (c :: r) = 0 := by
  have hm : marks.contains c = false := by
   rw [← Bool.not_eq_true]
   intro k
   have : ∀ x ∈ marks, rDig x.toNat = false := by decide
   rw [this c (by simpa using k)] at h
   simp at h
  have ht : two (c :: r) = false := by
   cases r with
   | nil => rfl
   | cons b r =>
    have a1 : (c.toNat == 45) = false := by simp [rDig] at h; simp; omega
    have a2 : (c.toNat == 61) = false := by simp [rDig] at h; simp; omega
    simp [two, a1, a2]
  simp only [markN, ht, hm, Bool.false_eq_true, if_false]
 unfold signN signK
 rw [h3, h5, h6]
 by_cases h0 : 0 < numN (c :: r)
 ·simp [h0]
 ·simp [h0]; omega
theorem sign_quote (c : UInt8) (r : List UInt8) (h : c.toNat = 39) : signN (c :: r) = (if 0 < wordN r then 1 + wordN r else 0) ∧ signK (c :: r) = if 0 < wordN r then 3 else 0 := by
 have h1 : rDig c.toNat = false := by rw [h]; rfl
 have h2 : span isDig (c :: r) = 0 := span_cons_f _ _ _ h1
 have hw : span inWd (c :: r) = 0 := span_cons_f _ _ _ (by show (rLet c.toNat || rDig c.toNat) = false; rw [h]; rfl)
 have h3 : numN (c :: r) = 0 := by simp [numN, h2]
 have h4 : wordN (c :: r) = 0 := by simp [wordN, h2, hw]
 have h5 : lifeN (c :: r) = if 0 < wordN r then 1 + wordN r else 0 := by simp [lifeN, h]
 have h6 : markN (c :: r) = 0 := by
  have hm : marks.contains c = false := by
   rw [← Bool.not_eq_true]
   intro k
   have : ∀ x ∈ marks, x.toNat ≠ 39 := by decide
   exact this c (by simpa using k) h
  have ht : two (c :: r) = false := by
   cases r with
   | nil => rfl
   | cons b r => simp [two, h]
  simp only [markN, ht, hm, Bool.false_eq_true, if_false]
 unfold signN signK
 rw [h3, h4, h5, h6]
 by_cases h0 : 0 < wordN r
 ·have : 0 < 1 + wordN r := by omega
  simp [h0]
 ·simp [h0]
theorem sign_else (c : UInt8) (r : List UInt8) (h1 : rLet c.toNat = false) (h2 : rDig c.toNat = false) (h3 : ¬ c.toNat = 39) : signN (c :: r) = markN (c :: r) ∧ signK (c :: r) = if 0 < markN (c :: r) then 4 else 0 := by
 have a1 : span isDig (c :: r) = 0 := span_cons_f _ _ _ h2
 have hw : span inWd (c :: r) = 0 := span_cons_f _ _ _ (by show (rLet c.toNat || rDig c.toNat) = false; rw [h1, h2]; rfl)
 have a3 : numN (c :: r) = 0 := by simp [numN, a1]
 have a4 : wordN (c :: r) = 0 := by simp [wordN, a1, hw]
 have a5 : lifeN (c :: r) = 0 := by simp [lifeN, h3]
 unfold signN signK
 rw [a3, a4, a5]
 by_cases h0 : 0 < markN (c :: r) <;> simp [h0]

theorem rem_at {L : List UInt8} {a : Nat} {c : UInt8} (hc : L[a]? = some c) : rem (L.drop a) = true ↔ c.toNat = 47 ∧ ∃ d, L[a + 1]? = some d ∧ d.toNat = 47 := by
 rw [drop_cons_get hc, rem_cons]
 simp only [decide_eq_true_eq, Option.map_eq_some_iff, List.head?_drop]
/-- what has been read up to a place, and what is to come, are the whole -/
def FRel (L : List UInt8) (a : Nat) (acc : List Tok) : Prop := ∃ n, L.length ≤ a + n ∧ lexG n (a + skip (L.drop a)) (L.drop (a + skip (L.drop a))) acc = lexA L
theorem frel_start (L : List UInt8) : FRel L 0 [] := ⟨L.length, by omega, by simp [lexA]⟩
theorem frel_blank {L : List UInt8} {a : Nat} {acc : List Tok} {c : UInt8} (h : FRel L a acc) (hc : L[a]? = some c) (hb : isBl c = true) : FRel L (a + 1) acc := by
 obtain ⟨n, h1, h2⟩ := h
 rw [drop_cons_get hc, skip_cons_bl _ _ hb, show a + (1 + skip (L.drop (a + 1))) = a + 1 + skip (L.drop (a + 1)) by omega] at h2
 exact ⟨n, by omega, h2⟩
theorem frel_rem {L : List UInt8} {a : Nat} {acc : List Tok} (h : FRel L a acc) (hr : rem (L.drop a) = true) : FRel L (a + span inRem (L.drop a)) acc := by
 obtain ⟨n, h1, h2⟩ := h
 rw [skip_rem _ hr, List.drop_drop, ← Nat.add_assoc] at h2
 exact ⟨n, by omega, h2⟩
theorem frel_end {L : List UInt8} {a : Nat} {acc : List Tok} (h : FRel L a acc) (ha : L.length ≤ a) : lexA L = .inr acc := by
 obtain ⟨n, h1, h2⟩ := h
 have e : L.drop (a + skip (L.drop a)) = [] := List.drop_eq_nil_of_le (by omega)
 rw [e] at h2
 rw [← h2]
 cases n <;> simp [lexG]
theorem frel_one {L : List UInt8} {a : Nat} {acc : List Tok} {c : UInt8} (h : FRel L a acc) (hc : L[a]? = some c) (hb : isBl c = false) (hr : rem (L.drop a) = false) :
  (signN (L.drop a) = 0 → lexA L = .inl a) ∧ (signN (L.drop a) ≠ 0 → FRel L (a + signN (L.drop a)) (acc ++ [⟨signK (L.drop a), a, (L.drop a).take (signN (L.drop a))⟩])) := by
 obtain ⟨n, h1, h2⟩ := h
 have hlt : a < L.length := (List.getElem?_eq_some_iff.1 hc).1
 have hs : skip (L.drop a) = 0 := skip_zero _ (by rw [drop_cons_get hc, span_cons_f _ _ _ hb]) hr
 have hne : L.drop a ≠ [] := by rw [drop_cons_get hc]; simp
 obtain ⟨m, rfl⟩ : ∃ m, n = m + 1 := ⟨n - 1, by omega⟩
 rw [hs] at h2
 simp only [Nat.add_zero] at h2
 rw [lexG, if_neg hne] at h2
 constructor
 ·intro hz
  rw [if_pos hz] at h2
  exact h2.symm
 ·intro hz
  rw [if_neg hz, List.drop_drop, List.drop_drop] at h2
  exact ⟨m, by omega, h2⟩
end Go.Proofs.YtemflcojebanlaaGreatDoor.LexP
/- Contracts of the document's answer of layer 1 (lienbookref01). -/
namespace Go.Proofs.YtemflcojebanlaaGreatDoor.LexC
open Go Go.RowKit Go.Lib LexP

set_option maxHeartbeats 400000 in
theorem rletter_any (v : Nat) (w : World) : Calls Tryz.prog 108 #[.int .u8 (v : Int)] w fun e w' => e = .returned (.bool (rLet v)) ∧ w = w' := by
 go_enter Tryz.func108, Tryz.ntmps108
 go_wp2
 all_goals go_ret
 all_goals refine ⟨ret_bool ?_, rfl⟩
 all_goals (rw [Bool.eq_iff_iff]; simp [rLet]; omega)
set_option maxHeartbeats 400000 in
theorem rdigit_any (v : Nat) (w : World) : Calls Tryz.prog 110 #[.int .u8 (v : Int)] w fun e w' => e = .returned (.bool (rDig v)) ∧ w = w' := by
 go_enter Tryz.func110, Tryz.ntmps110
 go_wp2
 all_goals go_ret
 all_goals refine ⟨ret_bool ?_, rfl⟩
 all_goals (rw [Bool.eq_iff_iff]; simp [rDig]; omega)

theorem at_get (s : ByteArray) (i : Nat) (h : i < s.size) : ∃ c : UInt8, s[i]'h = c ∧ s.data.toList[i]? = some c := by
 refine ⟨_, rfl, ?_⟩
 rw [get_some s i h]
 congr 1
 simp [ByteArray.get!, getElem!_pos, h]
 rfl

set_option maxHeartbeats 2000000 in
theorem rword_any (s : ByteArray) (a : Nat) (w : World) (hs : s.size ≤ 4611686018427387904) (ha : a ≤ s.size) :
  Calls Tryz.prog 109 #[.string s, .int .i64 (a : Int)] w fun e w' => e = .returned (.int .i64 ((a + wordN (s.data.toList.drop a) : Nat) : Int)) ∧ w = w' := by
 have hz := Lib.size_eq s
 have hd : (s.data.toList.drop a).length = s.size - a := by rw [List.length_drop, ← hz]
 have HZ := hid hz
 have HD := hid hd
 clear hz hd
 go_enter Tryz.func109, Tryz.ntmps109
 go_wp2
 go_loopg [5] (s.size - a) (fun gf v wx => ∃ n : Nat, v = .int .i64 ((a + n : Nat) : Int) ∧ a + n ≤ s.size ∧ s.size ≤ a + n + gf ∧ Hid (WRel (s.data.toList.drop a) n) ∧ wx = w)
 case atStart => exact ⟨0, by go_num, by omega, by omega, hid (wrel_zero _), rfl⟩
 case round =>
  obtain ⟨n, rfl, hn, hg, HR, rfl⟩ := hrel
  have ec : ((a + n : Nat) : Int) = (a : Int) + (n : Int) := by omega
  by_cases hlt : a + n < s.size
  ·obtain ⟨c, hc, hc2⟩ := at_get s (a + n) hlt
   have hc3 : (s.data.toList.drop a)[n]? = some c := by rw [List.getElem?_drop]; exact hc2
   have HC := hid hc3
   have c1 : ∀ W, Calls Tryz.prog 108 _ W _ := fun W => rletter_any c.toNat W
   have c2 : ∀ W, Calls Tryz.prog 110 _ W _ := fun W => rdigit_any c.toNat W
   clear hc2 hc3
   cases h1 : rLet c.toNat with
   | true =>
    rw [h1] at c1
    have C1 := hid c1
    have K := hid (wrel_step HR.out HC.out (.inl h1))
    clear c1 c2 h1 ec
    go_wp2_with (go_at_call 108; refine (C1.out _).mono ?_; rintro e w' ⟨rfl, rfl⟩)
    go_roundg (gk - 1)
    case measure => omega
    case rel => exact ⟨n + 1, by go_num, by omega, by omega, K, rfl⟩
   | false =>
    rw [h1] at c1
    have C1 := hid c1
    by_cases hn0 : 0 < n
    ·cases h2 : rDig c.toNat with
     | true =>
      rw [h2] at c2
      have C2 := hid c2
      have K := hid (wrel_step HR.out HC.out (.inr ⟨hn0, h2⟩))
      clear c1 c2 h1 h2 ec
      go_wp2_with (first | (go_at_call 108; refine (C1.out _).mono ?_; rintro e w' ⟨rfl, rfl⟩) | (go_at_call 110; refine (C2.out _).mono ?_; rintro e w' ⟨rfl, rfl⟩))
      go_roundg (gk - 1)
      case measure => omega
      case rel => exact ⟨n + 1, by go_num, by omega, by omega, K, rfl⟩
     | false =>
      rw [h2] at c2
      have C2 := hid c2
      have K := hid (wrel_stop HR.out HC.out h1 (by simp [h2]))
      clear c1 c2 h1 h2 ec
      by_cases h30 : 30 < n
      ·go_wp2_with (first | (go_at_call 108; refine (C1.out _).mono ?_; rintro e w' ⟨rfl, rfl⟩) | (go_at_call 110; refine (C2.out _).mono ?_; rintro e w' ⟨rfl, rfl⟩))
       go_ret
       exact ⟨ret_int (by rw [K.out, if_pos h30]; rfl), rfl⟩
      ·go_wp2_with (first | (go_at_call 108; refine (C1.out _).mono ?_; rintro e w' ⟨rfl, rfl⟩) | (go_at_call 110; refine (C2.out _).mono ?_; rintro e w' ⟨rfl, rfl⟩))
       go_ret
       exact ⟨ret_int (by rw [K.out, if_neg h30]; omega), rfl⟩
    ·obtain rfl : n = 0 := by omega
     have K := hid (wrel_stop HR.out HC.out h1 (by simp))
     have hlt' : a < s.size := by omega
     have hc' : s[a]'hlt' = c := by simpa using hc
     clear c1 c2 h1 ec hc hlt hn hg
     go_wp2_with (go_at_call 108; refine (C1.out _).mono ?_; rintro e w' ⟨rfl, rfl⟩)
     go_ret
     exact ⟨ret_int (by rw [K.out]; rfl), rfl⟩
  ·have K := hid (wrel_end HR.out (by rw [HD.out]; omega))
   by_cases h30 : 30 < n
   ·clear ec
    go_wp2_with fail
    go_ret
    exact ⟨ret_int (by rw [K.out, if_pos h30]; rfl), rfl⟩
   ·clear ec
    go_wp2_with fail
    go_ret
    exact ⟨ret_int (by rw [K.out, if_neg h30]), rfl⟩

theorem ext_two (s : ByteArray) (a : Nat) (c0 c1 : UInt8) (h0 : s.data.toList[a]? = some c0) (h1 : s.data.toList[a + 1]? = some c1) : (s.extract a (a + 2)).toList = [c0, c1] := by
 rw [Lib.extract_toList, show a + 2 - a = 2 by omega, drop_cons_get h0, drop_cons_get h1]
 rfl
/-- how many bytes a mark of one byte has -/
def m1 (c : UInt8) : Nat := if marks.contains c = true then 1 else 0
set_option maxHeartbeats 2000000 in
set_option maxRecDepth 100000 in
theorem rmark_loop (s : ByteArray) (a : Nat) (w : World) (hs : s.size ≤ 4611686018427387904) (ha : a < s.size) (c : UInt8) (hc : s[a]'ha = c)
  (hno : ¬ a + 1 < s.size ∨ (a + 1 < s.size ∧ ((s.extract a (a + 2)).toList == [45, 62]) = false ∧ ((s.extract a (a + 2)).toList == [61, 61]) = false)) :
  Calls Tryz.prog 111 #[.string s, .int .i64 (a : Int)] w fun e w' => e = .returned (.int .i64 ((m1 c : Nat) : Int)) ∧ ∃ n, w' = w.drewN n := by
 rcases hno with h1 | ⟨h1, e1, e2⟩
 all_goals
  go_enter Tryz.func111, Tryz.ntmps111
  go_wp2
  go_loopg [6] 17 (fun gf v wx => ∃ i : Nat, v = .int .i64 (i : Int) ∧ i ≤ 17 ∧ 17 ≤ i + gf ∧ Hid (marks.contains c = (marks.drop i).contains c) ∧ Hid (∃ n, wx = w.drewN n))
  case atStart => exact ⟨0, rfl, by omega, by omega, hid (by simp), hid ⟨0, rfl⟩⟩
  case round =>
   obtain ⟨i, rfl, hi, hg, HM, HW⟩ := hrel
   by_cases hlt : i < 17
   ·obtain ⟨y, hy, hy2⟩ := at_get ⟨#[40, 41, 123, 125, 91, 93, 44, 59, 58, 46, 38, 42, 61, 43, 45, 47, 60]⟩ i hlt
    have hy3 : marks[i]? = some y := hy2
    have H0 := HM.out
    rw [drop_cons_get hy3, List.contains_cons] at H0
    have hlt2 : (i : Int) < 17 := by omega
    have hi0 : (0 : Int) ≤ (i : Int) := by omega
    have ha2 : (a : Int) < (s.size : Int) := by omega
    obtain ⟨q, hq⟩ := HW.out
    subst hq
    by_cases hyc : y = c
    ·have K : Hid (m1 c = 1) := hid (by unfold m1; rw [H0, hyc]; simp)
     have e : ((y.toNat : Int) == (c.toNat : Int)) = true := by rw [hyc]; simp
     clear hyc H0 hy3 hy2 HM HW
     go_wp2_with fail
     go_quiet (fail)
     go_wp2_with fail
     go_ret
     exact ⟨ret_int (by rw [K.out]; rfl), q + nq, by first | rfl | exact World.drewN_drewN _ _ _⟩
    ·have K : Hid (marks.contains c = (marks.drop (i + 1)).contains c) := hid (by
      rw [H0, show (c == y) = false by simpa using fun h => hyc h.symm, Bool.false_or])
     have e : ((y.toNat : Int) == (c.toNat : Int)) = false := by
      simp only [beq_eq_false_iff_ne, ne_eq]
      intro h
      exact hyc (UInt8.toNat_inj.1 (by omega))
     clear hyc H0 hy3 hy2 HM HW
     go_wp2_with fail
     go_quiet (fail)
     go_wp2_with fail
     go_roundg (gk - 1)
     case measure => omega
     case rel => exact ⟨i + 1, by go_num, by omega, by omega, K, hid ⟨_, rfl⟩⟩
   ·obtain ⟨q, hq⟩ := HW.out
    subst hq
    have K : Hid (m1 c = 0) := hid (by
     unfold m1
     rw [HM.out, List.drop_eq_nil_of_le (by show 17 ≤ i; omega)]; rfl)
    have hlt2 : ¬ (i : Int) < 17 := by omega
    clear HM HW
    go_wp2_with fail
    go_ret
    exact ⟨ret_int (by rw [K.out]; rfl), _, rfl⟩

set_option maxHeartbeats 2000000 in
set_option maxRecDepth 100000 in
theorem rmark_two (s : ByteArray) (a : Nat) (w : World) (hs : s.size ≤ 4611686018427387904) (ha : a + 1 < s.size)
  (h : ((s.extract a (a + 2)).toList == [45, 62]) = true ∨ (((s.extract a (a + 2)).toList == [45, 62]) = false ∧ ((s.extract a (a + 2)).toList == [61, 61]) = true)) :
  Calls Tryz.prog 111 #[.string s, .int .i64 (a : Int)] w fun e w' => e = .returned (.int .i64 2) ∧ ∃ n, w' = w.drewN n := by
 rcases h with e1 | ⟨e1, e2⟩
 all_goals
  go_enter Tryz.func111, Tryz.ntmps111
  go_wp2
  go_ret
  exact ⟨rfl, 0, rfl⟩
theorem rmark_any (s : ByteArray) (a : Nat) (w : World) (hs : s.size ≤ 4611686018427387904) (ha : a < s.size) :
  Calls Tryz.prog 111 #[.string s, .int .i64 (a : Int)] w fun e w' => e = .returned (.int .i64 ((markN (s.data.toList.drop a) : Nat) : Int)) ∧ ∃ n, w' = w.drewN n := by
 obtain ⟨c, hc, hc2⟩ := at_get s a ha
 by_cases h1 : a + 1 < s.size
 ·obtain ⟨d, hd, hd2⟩ := at_get s (a + 1) h1
  have hx := ext_two s a c d hc2 hd2
  have ht : two (s.data.toList.drop a) = (((s.extract a (a + 2)).toList == [45, 62]) || ((s.extract a (a + 2)).toList == [61, 61])) := by
   rw [hx, drop_cons_get hc2, drop_cons_get hd2]
   rw [Bool.eq_iff_iff]
   simp [two, ← UInt8.toNat_inj]
  have hm : markN (s.data.toList.drop a) = if two (s.data.toList.drop a) then 2 else m1 c := by rw [drop_cons_get hc2]; rfl
  rw [hm, ht]
  cases e1 : ((s.extract a (a + 2)).toList == [45, 62]) with
  | true => exact rmark_two s a w hs h1 (.inl e1)
  | false =>
   cases e2 : ((s.extract a (a + 2)).toList == [61, 61]) with
   | true => exact rmark_two s a w hs h1 (.inr ⟨e1, e2⟩)
   | false => exact rmark_loop s a w hs ha c hc (.inr ⟨h1, e1, e2⟩)
 ·have hm : markN (s.data.toList.drop a) = m1 c := by
   have e : s.data.toList.drop (a + 1) = [] := List.drop_eq_nil_of_le (by rw [← Lib.size_eq]; omega)
   rw [drop_cons_get hc2, e]
   rfl
  rw [hm]
  exact rmark_loop s a w hs ha c hc (.inl h1)

/-- What the token is that begins at a place: its kind, and where it ends; 0, 0: none. -/
def tokEnd (a : Nat) (l : List UInt8) : Nat := if signN l = 0 then 0 else a + signN l
theorem ret_two {a b c d : Int} (h1 : a = c) (h2 : b = d) : Ending.returned (.tuple #[.int .i64 a, .int .i64 b]) = .returned (.tuple #[.int .i64 c, .int .i64 d]) := by rw [h1, h2]
set_option maxHeartbeats 4000000 in
set_option maxRecDepth 100000 in
theorem rtoken_any (s : ByteArray) (a : Nat) (w : World) (hs : s.size ≤ 4611686018427387904) (ha : a < s.size) :
  Calls Tryz.prog 79 #[.string s, .int .i64 (a : Int)] w fun e w' => e = .returned (.tuple #[.int .i64 ((signK (s.data.toList.drop a) : Nat) : Int), .int .i64 ((tokEnd a (s.data.toList.drop a) : Nat) : Int)]) ∧ ∃ n, w' = w.drewN n := by
 obtain ⟨c, hc, hc2⟩ := at_get s a ha
 have hdc := drop_cons_get hc2
 have HZ := hid (Lib.size_eq s)
 have HC2 := hid hc2
 have c1 : ∀ W, Calls Tryz.prog 108 _ W _ := fun W => rletter_any c.toNat W
 have c2 : ∀ W, Calls Tryz.prog 110 _ W _ := fun W => rdigit_any c.toNat W
 clear hc2
 cases h1 : rLet c.toNat with
 | true =>
  rw [h1] at c1
  have k := sign_let c (s.data.toList.drop (a + 1)) h1
  rw [← hdc] at k
  have c3 : ∀ W, Calls Tryz.prog 109 _ W _ := fun W => rword_any s a W hs (by omega)
  have hl := wordN_le (s.data.toList.drop a)
  unfold tokEnd
  rw [k.1, k.2]
  generalize wordN (s.data.toList.drop a) = n at *
  have C1 := hid c1
  have C3 := hid c3
  clear c1 c2 c3 k hdc h1
  by_cases hn : 0 < n
  ·have ec : ((a + n : Nat) : Int) = (a : Int) + (n : Int) := by omega
   rw [if_pos hn, if_neg (by omega), ec]
   rw [ec] at C3
   have hgt : (a : Int) < (a : Int) + (n : Int) := by omega
   clear ec
   go_enter Tryz.func79, Tryz.ntmps79
   go_wp2_with (first | (go_at_call 108; refine (C1.out _).mono ?_; rintro e w' ⟨rfl, rfl⟩) | (go_at_call 109; refine (C3.out _).mono ?_; rintro e w' ⟨rfl, rfl⟩))
   go_ret2
   exact ⟨rfl, 0, rfl⟩
  ·obtain rfl : n = 0 := by omega
   simp only [Nat.add_zero] at C3
   rw [if_neg hn, if_pos rfl]
   clear hn
   go_enter Tryz.func79, Tryz.ntmps79
   go_wp2_with (first | (go_at_call 108; refine (C1.out _).mono ?_; rintro e w' ⟨rfl, rfl⟩) | (go_at_call 109; refine (C3.out _).mono ?_; rintro e w' ⟨rfl, rfl⟩))
   go_ret2
   exact ⟨rfl, 0, rfl⟩
 | false =>
  rw [h1] at c1
  have C1 := hid c1
  cases h2 : rDig c.toNat with
  | true =>
   rw [h2] at c2
   have C2 := hid c2
   have k := sign_dig c (s.data.toList.drop (a + 1)) h2
   rw [← hdc] at k
   have hd : (s.data.toList.drop a).length = s.size - a := by rw [List.length_drop, ← HZ.out]
   have HD := hid hd
   have hp : 0 < span isDig (s.data.toList.drop a) := by
    rw [hdc, span_cons_t isDig _ _ h2]; omega
   have fin : ∀ n, span isDig (s.data.toList.drop a) = n → (18 < n ∧ Hid (signK (s.data.toList.drop a) = 0 ∧ tokEnd a (s.data.toList.drop a) = 0)) ∨ (¬ 18 < n ∧ Hid (signK (s.data.toList.drop a) = 2 ∧ tokEnd a (s.data.toList.drop a) = a + n)) := by
    intro n h
    rw [h] at hp
    have hnum : numN (s.data.toList.drop a) = if 18 < n then 0 else n := by unfold numN; rw [h]
    unfold tokEnd
    rw [k.1, k.2, hnum]
    by_cases h18 : 18 < n
    ·left; exact ⟨h18, hid (by simp [h18])⟩
    ·right; exact ⟨h18, hid (by simp [h18, hp]; omega)⟩
   have FIN := hid fin
   clear fin
   clear k c1 c2 h1 h2 hd hdc hp
   go_enter Tryz.func79, Tryz.ntmps79
   go_wp2_with (first | (go_at_call 108; refine (C1.out _).mono ?_; rintro e w' ⟨rfl, rfl⟩) | (go_at_call 110; refine (C2.out _).mono ?_; rintro e w' ⟨rfl, rfl⟩))
   clear C1 C2 hc
   go_loopg [8] (s.size - a) (fun gf v wx => ∃ n : Nat, v = .int .i64 ((a + n : Nat) : Int) ∧ a + n ≤ s.size ∧ s.size ≤ a + n + gf ∧ Hid (SRel isDig (s.data.toList.drop a) n) ∧ wx = w)
   case atStart => exact ⟨0, by go_num, by omega, by omega, hid (srel_zero _ _), rfl⟩
   case round =>
    obtain ⟨n, rfl, hn, hg, HR, rfl⟩ := hrel
    have ec : ((a + n : Nat) : Int) = (a : Int) + (n : Int) := by omega
    have stop : span isDig (s.data.toList.drop a) = n → True ∧ _ := fun h => ⟨trivial, FIN.out n h⟩
    by_cases hlt : a + n < s.size
    ·obtain ⟨d, hd, hd2⟩ := at_get s (a + n) hlt
     have hd3 : (s.data.toList.drop a)[n]? = some d := by rw [List.getElem?_drop]; exact hd2
     have c2 : ∀ W, Calls Tryz.prog 110 _ W _ := fun W => rdigit_any d.toNat W
     cases h2 : rDig d.toNat with
     | true =>
      rw [h2] at c2
      have C2 := hid c2
      have K := hid (srel_step HR.out hd3 h2)
      clear c2 h2 ec stop hd2 hd3
      go_wp2_with (go_at_call 110; refine (C2.out _).mono ?_; rintro e w' ⟨rfl, rfl⟩)
      go_roundg (gk - 1)
      case measure => omega
      case rel => exact ⟨n + 1, by go_num, by omega, by omega, K, rfl⟩
     | false =>
      rw [h2] at c2
      have C2 := hid c2
      have K := stop (srel_stop HR.out hd3 h2)
      clear c2 h2 ec stop hd2 hd3
      obtain ⟨_, ⟨h18, K⟩ | ⟨h18, K⟩⟩ := K
      ·go_wp2_with (go_at_call 110; refine (C2.out _).mono ?_; rintro e w' ⟨rfl, rfl⟩)
       go_ret2
       exact ⟨ret_two (by rw [K.out.1]; rfl) (by rw [K.out.2]; rfl), 0, rfl⟩
      ·go_wp2_with (go_at_call 110; refine (C2.out _).mono ?_; rintro e w' ⟨rfl, rfl⟩)
       go_ret2
       exact ⟨ret_two (by rw [K.out.1]; rfl) (by rw [K.out.2]; omega), 0, rfl⟩
    ·have K := stop (srel_end HR.out (by rw [HD.out]; omega))
     clear ec stop
     obtain ⟨_, ⟨h18, K⟩ | ⟨h18, K⟩⟩ := K
     ·go_wp2_with fail
      go_ret2
      exact ⟨ret_two (by rw [K.out.1]; rfl) (by rw [K.out.2]; rfl), 0, rfl⟩
     ·go_wp2_with fail
      go_ret2
      exact ⟨ret_two (by rw [K.out.1]; rfl) (by rw [K.out.2]; omega), 0, rfl⟩
  | false =>
   rw [h2] at c2
   have C2 := hid c2
   by_cases h39 : c.toNat = 39
   ·have k := sign_quote c (s.data.toList.drop (a + 1)) h39
    rw [← hdc] at k
    have c3 : ∀ W, Calls Tryz.prog 109 _ W _ := fun W => rword_any s (a + 1) W hs (by omega)
    have hl := wordN_le (s.data.toList.drop (a + 1))
    unfold tokEnd
    rw [k.1, k.2]
    generalize wordN (s.data.toList.drop (a + 1)) = n at *
    have e39 : ((c.toNat : Int) == 39) = true := by rw [h39]; rfl
    have C3 := hid c3
    clear c1 c2 c3 k hdc h1 h2 h39
    have ec1 : ((a + 1 : Nat) : Int) = (a : Int) + 1 := by omega
    have ec : ((a + 1 + n : Nat) : Int) = (a : Int) + 1 + (n : Int) := by omega
    rw [ec1, ec] at C3
    clear ec1 ec
    by_cases hn : 0 < n
    ·rw [if_pos hn, if_pos hn, if_neg (by omega)]
     have HE : Hid ((a : Int) + 1 + (n : Int) = ((a + (1 + n) : Nat) : Int)) := hid (by omega)
     have hgt : (a : Int) + 1 < (a : Int) + 1 + (n : Int) := by omega
     go_enter Tryz.func79, Tryz.ntmps79
     go_wp2_with (first | (go_at_call 108; refine (C1.out _).mono ?_; rintro e w' ⟨rfl, rfl⟩) | (go_at_call 110; refine (C2.out _).mono ?_; rintro e w' ⟨rfl, rfl⟩) | (go_at_call 109; refine (C3.out _).mono ?_; rintro e w' ⟨rfl, rfl⟩))
     go_ret2
     exact ⟨ret_two rfl HE.out, 0, rfl⟩
    ·obtain rfl : n = 0 := by omega
     simp only [Nat.lt_irrefl, if_false, if_true]
     rw [show (a : Int) + 1 + ((0 : Nat) : Int) = (a : Int) + 1 by simp] at C3
     clear hn
     go_enter Tryz.func79, Tryz.ntmps79
     go_wp2_with (first | (go_at_call 108; refine (C1.out _).mono ?_; rintro e w' ⟨rfl, rfl⟩) | (go_at_call 110; refine (C2.out _).mono ?_; rintro e w' ⟨rfl, rfl⟩) | (go_at_call 109; refine (C3.out _).mono ?_; rintro e w' ⟨rfl, rfl⟩))
     go_ret2
     exact ⟨rfl, 0, rfl⟩
   ·have k := sign_else c (s.data.toList.drop (a + 1)) h1 h2 h39
    rw [← hdc] at k
    have c3 : ∀ W, Calls Tryz.prog 111 _ W _ := fun W => rmark_any s a W hs ha
    have hl := markN_le (s.data.toList.drop a)
    unfold tokEnd
    rw [k.1, k.2]
    generalize markN (s.data.toList.drop a) = n at *
    have e39 : ((c.toNat : Int) == 39) = false := by simp; omega
    have C3 := hid c3
    clear c1 c2 c3 k hdc h1 h2 h39
    by_cases hn : 0 < n
    ·rw [if_pos hn, if_neg (by omega)]
     have HE : Hid ((a : Int) + (n : Int) = ((a + n : Nat) : Int)) := hid (by omega)
     go_enter Tryz.func79, Tryz.ntmps79
     go_wp2_with (first | (go_at_call 108; refine (C1.out _).mono ?_; rintro e w' ⟨rfl, rfl⟩) | (go_at_call 110; refine (C2.out _).mono ?_; rintro e w' ⟨rfl, rfl⟩) | (go_at_call 111; refine (C3.out _).mono ?_; rintro e w' ⟨rfl, q, rfl⟩))
     go_ret2
     exact ⟨ret_two rfl HE.out, _, rfl⟩
    ·obtain rfl : n = 0 := by omega
     simp only [Nat.lt_irrefl, if_false, if_true]
     clear hn
     go_enter Tryz.func79, Tryz.ntmps79
     go_wp2_with (first | (go_at_call 108; refine (C1.out _).mono ?_; rintro e w' ⟨rfl, rfl⟩) | (go_at_call 110; refine (C2.out _).mono ?_; rintro e w' ⟨rfl, rfl⟩) | (go_at_call 111; refine (C3.out _).mono ?_; rintro e w' ⟨rfl, q, rfl⟩))
     go_ret2
     exact ⟨rfl, _, rfl⟩
end Go.Proofs.YtemflcojebanlaaGreatDoor.LexC
/- Contracts of lienbookref02's small functions: names, places, strengths. -/
namespace Go.Proofs.YtemflcojebanlaaGreatDoor.TreeC
open Go Go.RowKit Go.Lib LexP TreeP LexC

theorem ret_nat {a b : Nat} (h : a = b) : Ending.returned (.int .i64 (a : Int)) = .returned (.int .i64 (b : Int)) := by rw [h]
set_option maxHeartbeats 400000 in
theorem rPlace_any (e : Ex) (w : World) : Calls Tryz.prog 89 #[e.val] w fun r w' => r = .returned (.bool e.place) ∧ Below w.heap.size w w' := by
 obtain ⟨k, num, name, mt, v, kids⟩ := e
 simp only [Ex.val_mk]
 go_enter Tryz.func89, Tryz.ntmps89
 go_wp2
 all_goals go_ret
 all_goals refine ⟨ret_bool ?_, (Below.refl _ _).alloc (Nat.le_refl _) _⟩
 all_goals simp [Ex.place, Ex.kind, placeK, *]
set_option maxHeartbeats 400000 in
theorem rmore_any (a b : Nat) (w : World) : Calls Tryz.prog 54 #[.int .i64 (a : Int), .int .i64 (b : Int)] w fun r w' => r = .returned (.int .i64 ((max a b : Nat) : Int)) ∧ w = w' := by
 go_enter Tryz.func54, Tryz.ntmps54
 go_wp2
 all_goals go_ret
 all_goals exact ⟨ret_nat (by omega), rfl⟩
theorem str_of (k : Int) (name : ByteArray) (n : Nat) (h : (if (k == 8) = true then if (name.toList == [60]) = true then 1 else if (name.toList == [61, 61]) = true then 1 else if (name.toList == [43]) = true then 2 else if (name.toList == [45]) = true then 2 else if (name.toList == [42]) = true then 3 else if (name.toList == [47]) = true then 3 else 4 else 4) = n) : strK k (bs name) = n := by
 rw [← h, Lib.toList_data]
 unfold strK bs
 simp only [beq_iff_eq]
 by_cases h0 : k = 8
 ·simp only [h0, if_true]
  by_cases h1 : name.data.toList = [60] <;> by_cases h2 : name.data.toList = [61, 61] <;> by_cases h3 : name.data.toList = [43] <;> by_cases h4 : name.data.toList = [45] <;> by_cases h5 : name.data.toList = [42] <;> simp_all
 ·simp [h0]
set_option maxHeartbeats 1000000 in
theorem rStr_any (e : Ex) (w : World) : Calls Tryz.prog 90 #[e.val] w fun r w' => r = .returned (.int .i64 (e.str : Int)) ∧ Below w.heap.size w w' := by
 obtain ⟨k, num, name, mt, v, kids⟩ := e
 have ho := str_of k name
 simp only [Ex.val_mk, Ex.str, Ex.kind, Ex.name]
 obtain ⟨S, hS⟩ : ∃ S, strK k (bs name) = S := ⟨_, rfl⟩
 rw [hS] at ho ⊢
 clear hS
 cases a0 : (k == 8)
 ·have H := ho 4 (by rw [a0]; rfl)
  clear ho
  subst H
  go_enter Tryz.func90, Tryz.ntmps90
  go_wp2
  go_ret
  exact ⟨rfl, (Below.refl _ _).alloc (Nat.le_refl _) _⟩
 cases a1 : (name.toList == [60])
 case true =>
  have H := ho 1 (by rw [a0, a1]; rfl)
  clear ho
  subst H
  go_enter Tryz.func90, Tryz.ntmps90
  go_wp2
  go_ret
  exact ⟨rfl, (Below.refl _ _).alloc (Nat.le_refl _) _⟩
 cases a2 : (name.toList == [61, 61])
 case true =>
  have H := ho 1 (by rw [a0, a1, a2]; rfl)
  clear ho
  subst H
  go_enter Tryz.func90, Tryz.ntmps90
  go_wp2
  go_ret
  exact ⟨rfl, (Below.refl _ _).alloc (Nat.le_refl _) _⟩
 cases a3 : (name.toList == [43])
 case true =>
  have H := ho 2 (by rw [a0, a1, a2, a3]; rfl)
  clear ho
  subst H
  go_enter Tryz.func90, Tryz.ntmps90
  go_wp2
  go_ret
  exact ⟨rfl, (Below.refl _ _).alloc (Nat.le_refl _) _⟩
 cases a4 : (name.toList == [45])
 case true =>
  have H := ho 2 (by rw [a0, a1, a2, a3, a4]; rfl)
  clear ho
  subst H
  go_enter Tryz.func90, Tryz.ntmps90
  go_wp2
  go_ret
  exact ⟨rfl, (Below.refl _ _).alloc (Nat.le_refl _) _⟩
 cases a5 : (name.toList == [42])
 case true =>
  have H := ho 3 (by rw [a0, a1, a2, a3, a4, a5]; rfl)
  clear ho
  subst H
  go_enter Tryz.func90, Tryz.ntmps90
  go_wp2
  go_ret
  exact ⟨rfl, (Below.refl _ _).alloc (Nat.le_refl _) _⟩
 cases a6 : (name.toList == [47])
 case true =>
  have H := ho 3 (by rw [a0, a1, a2, a3, a4, a5, a6]; rfl)
  clear ho
  subst H
  go_enter Tryz.func90, Tryz.ntmps90
  go_wp2
  go_ret
  exact ⟨rfl, (Below.refl _ _).alloc (Nat.le_refl _) _⟩
 case false =>
  have H := ho 4 (by rw [a0, a1, a2, a3, a4, a5, a6]; rfl)
  clear ho
  subst H
  go_enter Tryz.func90, Tryz.ntmps90
  go_wp2
  go_ret
  exact ⟨rfl, (Below.refl _ _).alloc (Nat.le_refl _) _⟩
set_option maxHeartbeats 1000000 in
theorem rIsWord_any (s : ByteArray) (w : World) (hs : s.size ≤ 4611686018427387904) : Calls Tryz.prog 87 #[.string s] w fun r w' => r = .returned (.bool (wordB (bs s))) ∧ w = w' := by
 have c1 := fun W => rword_any s 0 W hs (Nat.zero_le _)
 have hz := Lib.size_eq s
 have hw : (wordB (bs s)) = (decide (0 < s.size) && decide (((0 + wordN ((bs s).drop 0) : Nat) : Int) = (s.size : Int))) := by
  unfold wordB
  rw [List.drop_zero, Nat.zero_add, Bool.eq_iff_iff]
  simp only [Bool.and_eq_true, Bool.not_eq_true', List.isEmpty_eq_false_iff, beq_iff_eq, decide_eq_true_eq, ← List.length_pos_iff]
  unfold bs
  omega
 rw [hw]
 generalize 0 + wordN ((bs s).drop 0) = n at *
 have C1 := hid c1
 clear c1 hz hw
 by_cases h0 : 0 < s.size
 ·go_enter Tryz.func87, Tryz.ntmps87
  go_wp2_with fail
  refine (C1.out _).mono ?_
  rintro e W1 ⟨rfl, rfl⟩
  go_wp2_with fail
  go_ret
  exact ⟨by simp [h0]; rfl, rfl⟩
 ·go_enter Tryz.func87, Tryz.ntmps87
  go_wp2_with fail
  go_ret
  exact ⟨by simp [h0], rfl⟩

/-- the i-th kept word -/
def keptS (i : Nat) : ByteArray := ⟨(kept.getD i []).toArray⟩
theorem kept_get (i : Nat) (hi : i < kept.length) : kept.getD i [] = kept[i] := by
 rw [List.getD_eq_getElem?_getD, List.getElem?_eq_getElem hi]; rfl
theorem kept_of (s : ByteArray) (h : ∀ j, j < 10 → ((keptS j).toList == s.toList) = false) : kept.contains (bs s) = false := by
 rw [← Bool.not_eq_true]
 intro hc
 rw [List.contains_iff_mem] at hc
 obtain ⟨i, hi, e⟩ := List.mem_iff_getElem.1 hc
 have h1 := h i hi
 rw [Lib.toList_data, Lib.toList_data, show (keptS i).data.toList = kept.getD i [] from by simp [keptS], kept_get i hi, e] at h1
 simp at h1
theorem kept_in (s : ByteArray) (i : Nat) (hi : i < 10) (h : ((keptS i).toList == s.toList) = true) : kept.contains (bs s) = true := by
 rw [beq_iff_eq, Lib.toList_data, Lib.toList_data, show (keptS i).data.toList = kept.getD i [] from by simp [keptS], kept_get i hi] at h
 rw [List.contains_iff_mem]
 unfold bs
 rw [← h]
 exact List.getElem_mem _
theorem kept_cells (w : World) (o : Obj) (i : Nat) (hi : i < 10) (h : o = .cells #[.string ⟨#[102, 110]⟩, .string ⟨#[108, 101, 116]⟩, .string ⟨#[105, 102]⟩, .string ⟨#[101, 108, 115, 101]⟩, .string ⟨#[114, 101, 112, 101, 97, 116]⟩, .string ⟨#[114, 101, 116]⟩, .string ⟨#[98, 111, 120]⟩, .string ⟨#[105, 110, 116]⟩, .string ⟨#[109, 117, 116]⟩, .string ⟨#[119, 104, 101, 114, 101]⟩] 9 (0, 0)) :
  (w.alloc o).cell? ⟨w.heap.size, i, none⟩ = some (.string (keptS i)) := by
 rw [Lib.cell_of_heap (by rw [h]; exact heap_alloc_new _ _)]
 have : ∀ j : Fin 10, (#[Value.string ⟨#[102, 110]⟩, .string ⟨#[108, 101, 116]⟩, .string ⟨#[105, 102]⟩, .string ⟨#[101, 108, 115, 101]⟩, .string ⟨#[114, 101, 112, 101, 97, 116]⟩, .string ⟨#[114, 101, 116]⟩, .string ⟨#[98, 111, 120]⟩, .string ⟨#[105, 110, 116]⟩, .string ⟨#[109, 117, 116]⟩, .string ⟨#[119, 104, 101, 114, 101]⟩] : Array Value)[j.val]? = some (.string (keptS j.val)) := fun j => by
  match j with
  | ⟨0, _⟩ => rfl
  | ⟨1, _⟩ => rfl
  | ⟨2, _⟩ => rfl
  | ⟨3, _⟩ => rfl
  | ⟨4, _⟩ => rfl
  | ⟨5, _⟩ => rfl
  | ⟨6, _⟩ => rfl
  | ⟨7, _⟩ => rfl
  | ⟨8, _⟩ => rfl
  | ⟨9, _⟩ => rfl
 exact this ⟨i, hi⟩
set_option maxHeartbeats 1000000 in
theorem rName_any (s : ByteArray) (w : World) (hs : s.size ≤ 4611686018427387904) : Calls Tryz.prog 48 #[.string s] w fun r w' => r = .returned (.bool (nameB (bs s))) ∧ Below w.heap.size w w' := by
 have C1 := hid (fun W => rIsWord_any s W hs)
 go_enter Tryz.func48, Tryz.ntmps48
 go_wp2_with fail
 have hb0 : Below w.heap.size w (w.alloc (.cells #[.string ⟨#[102, 110]⟩, .string ⟨#[108, 101, 116]⟩, .string ⟨#[105, 102]⟩, .string ⟨#[101, 108, 115, 101]⟩, .string ⟨#[114, 101, 112, 101, 97, 116]⟩, .string ⟨#[114, 101, 116]⟩, .string ⟨#[98, 111, 120]⟩, .string ⟨#[105, 110, 116]⟩, .string ⟨#[109, 117, 116]⟩, .string ⟨#[119, 104, 101, 114, 101]⟩] 9 (0, 0))) := (Below.refl _ _).alloc (Nat.le_refl _) _
 have hk := fun i hi => kept_cells w _ i hi rfl
 generalize w.alloc _ = W1 at *
 go_loopg [4] 10 (fun gf v wx => ∃ i : Nat, v = .int .i64 (i : Int) ∧ i ≤ 10 ∧ 10 ≤ i + gf ∧ Hid (∀ j, j < i → ((keptS j).toList == s.toList) = false) ∧ wx = W1)
 case atStart => exact ⟨0, rfl, by omega, by omega, hid (fun j hj => by omega), rfl⟩
 case round =>
  obtain ⟨i, rfl, hi, hg, HR, rfl⟩ := hrel
  by_cases hlt : i < 10
  ·have hc := hk i hlt
   have HK := hid hk
   clear hk
   cases ht : ((keptS i).toList == s.toList)
   ·go_wp2_with fail
    go_roundg (gk - 1)
    case measure => omega
    case rel => exact ⟨i + 1, by go_num, by omega, by omega, hid (fun j hj => by
     by_cases h : j < i
     ·exact HR.out j h
     ·obtain rfl : j = i := by omega
      exact ht), rfl⟩
   ·have K := hid (kept_in s i hlt ht)
    go_wp2_with fail
    go_ret
    exact ⟨ret_bool (by unfold nameB; rw [K.out]; rfl), hb0⟩
  ·obtain rfl : i = 10 := by omega
   have K := hid (kept_of s HR.out)
   clear hk
   go_wp2_with fail
   refine (C1.out _).mono ?_
   rintro e W2 ⟨rfl, rfl⟩
   go_wp2_with fail
   go_ret
   exact ⟨ret_bool (by unfold nameB; rw [K.out]; rfl), hb0⟩
end Go.Proofs.YtemflcojebanlaaGreatDoor.TreeC
