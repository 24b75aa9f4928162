/- Texts joined: ParFc, ParFd, ParFe, LexRefL, ParFf, NmW. -/
import Derived.Test.YtemflcojebanlaaGreatDoorJ34
import Derived.Test.YtemflcojebanlaaGreatDoorJ02
import Derived.Test.YtemflcojebanlaaGreatDoorJ22
import Derived.Test.YtemflcojebanlaaGreatDoorJ23
import Derived.Test.YtemflcojebanlaaGreatDoorJ24
/- The document's own parser: a function read is a token read, or wrong. -/
namespace Go.Proofs.YtemflcojebanlaaGreatDoor.ParC
open Go Go.RowKit Go.Lib Go.Sort LexP TreeP LexC TreeC PageC TextC ParP

theorem fnOk : KdOk fnK 22 (.agg fnZ) 232 := ⟨by kernel_rfl, by kernel_rfl, rfl, by decide⟩
theorem ty_wr2 (N : Nat) {s : S} (h : s.wr = true) : (tyS N s).2.wr = true := by unfold tyS; rw [kind_wr N _ s h]; exact h
theorem next_wr2 {s : S} (h : s.wr = true) (x : List UInt8) : nextB s x = false := by simp [nextB, h]
theorem lives_wr2 (N : Nat) {s : S} (h : s.wr = true) : (livesS N s).2.wr = true := by unfold livesS; rw [if_neg (by simp [next_wr2 h])]; exact h
theorem param_wr2 (N : Nat) {s : S} (h : s.wr = true) : (paramS N s).2.wr = true := ty_wr2 N (must_wr2 (name_wr2 h) _)
theorem params_wr2 (N : Nat) {s : S} (h : s.wr = true) : (paramsS N s).2.wr = true := by
 unfold paramsS rowS
 rw [if_neg (by simp [next_wr2 h])]
 refine must_wr2 ?_ _
 rw [more_wr _ _ _ (param_wr2 N h)]
 exact param_wr2 N h
theorem outs_wr2 (N : Nat) {s : S} (h : s.wr = true) : (outsS N s).2.wr = true := by unfold outsS; rw [if_neg (by simp [next_wr2 h])]; exact h
theorem stmts_wr2 (f : S → PS × S) (x : List UInt8) (m : Nat) {s : S} (h : s.wr = true) : (stmtsS f x m s).2.wr = true := by rw [stmts_wr f x m s h]; exact h
/-- a function read is a token read, or wrong -/
theorem fn_prog (N : Nat) (s : S) (_h : s.wr = false) : (fnS N s).2.wr = true ∨ (fnS N s).2.rest.length < s.rest.length := by
 cases hn : nextB s kFn with
 | false =>
  left
  have h : (mustS kFn s).wr = true := by unfold mustS; rw [hn, if_neg (by simp)]; rfl
  exact must_wr2 (must_wr2 (ex_wr2 N (stmts_wr2 _ _ _ (must_wr2 (outs_wr2 N (ty_wr2 N (must_wr2 (params_wr2 N (must_wr2 (lives_wr2 N (name_wr2 h)) _)) _))) _))) _) _
 | true =>
  right
  obtain ⟨hp, _⟩ := next_pass hn (by decide)
  have h : (mustS kFn s).rest.length + 1 = s.rest.length := by unfold mustS; rw [if_pos hn]; exact hp
  have k : (fnS N s).2.rest.length ≤ (mustS kFn s).rest.length :=
   Nat.le_trans (must_le _ _) (Nat.le_trans (must_le _ _) (Nat.le_trans (ex_le N _) (Nat.le_trans (stmts_le (stmt_le N _) _ _ _) (Nat.le_trans (must_le _ _) (Nat.le_trans (outs_le N _) (Nat.le_trans (kind_le N _ _) (Nat.le_trans (must_le _ _) (Nat.le_trans (params_le N _) (Nat.le_trans (must_le _ _) (Nat.le_trans (lives_le N _) (name_le _)))))))))))
  omega
/- What the lexer gives is fit to be read: ToksOk. No program. -/

theorem take_span (p : UInt8 → Bool) : ∀ (l : List UInt8) (c : UInt8), c ∈ l.take (span p l) → p c = true
 | [], c, h => by simp [span] at h
 | d :: l, c, h => by
  cases hd : p d with
  | false => rw [span_cons_f _ _ _ hd] at h; simp at h
  | true =>
   rw [span_cons_t _ _ _ hd, List.take_succ_cons] at h
   rcases List.mem_cons.1 h with rfl | h
   ·exact hd
   ·exact take_span p l c h
structure TokOk (t : Tok) : Prop where
 short : t.text.length ≤ 31
 num : t.kind = 2 → t.text.length ≤ 18 ∧ ∀ c ∈ t.text, 48 ≤ c.toNat ∧ c.toNat ≤ 57
theorem sign_ok (l : List UInt8) (a : Nat) : TokOk ⟨signK l, a, l.take (signN l)⟩ := by
 refine ⟨?_, fun h => ?_⟩
 ·have := (signN_le l).2
  simp
  omega
 ·have h1 : ¬ 0 < wordN l := fun h1 => by simp [signK, h1] at h
  have h2 : 0 < numN l := by
   refine Decidable.byContradiction fun h2 => ?_
   simp only [signK, if_neg h1, if_neg h2] at h
   split at h
   ·cases h
   ·split at h <;> cases h
  have e : signN l = numN l := by simp only [signN, if_neg h1, if_pos h2]
  have h18 := (numN_le l).2
  have en : numN l = span isDig l := by
   unfold numN at h2 ⊢
   split at h2
   ·omega
   ·rename_i h3
    rw [if_neg h3]
  refine ⟨?_, fun c hc => ?_⟩
  ·simp only [List.length_take]
   omega
  ·simp only at hc
   rw [e, en] at hc
   have := take_span isDig l c hc
   simpa [isDig] using this
theorem lexG_ok : ∀ (n a : Nat) (l : List UInt8) (acc ts : List Tok), lexG n a l acc = .inr ts → (∀ t ∈ acc, TokOk t) → (∀ t ∈ ts, TokOk t) ∧ ts.length ≤ acc.length + n
 | 0, _, _, acc, ts, h, ha => by
  rw [lexG] at h
  cases h
  exact ⟨ha, by omega⟩
 | n + 1, a, l, acc, ts, h, ha => by
  rw [lexG] at h
  split at h
  ·cases h
   exact ⟨ha, by omega⟩
  ·split at h
   ·cases h
   ·obtain ⟨h1, h2⟩ := lexG_ok n _ _ _ ts h (fun t ht => by
     rcases List.mem_append.1 ht with h | h
     ·exact ha t h
     ·have e : t = ⟨signK l, a, l.take (signN l)⟩ := by simpa using h
      rw [e]
      exact sign_ok l a)
    refine ⟨h1, ?_⟩
    simp at h2
    omega
/-- what the lexer gives is fit to be read -/
theorem toks_ok {l : List UInt8} {ts : List Tok} (h : lexA l = .inr ts) (hl : l.length ≤ 1048576) : ToksOk ts ∧ ts.length ≤ l.length := by
 obtain ⟨h1, h2⟩ := lexG_ok _ _ _ _ _ h (fun t ht => by simp at ht)
 simp at h2
 exact ⟨⟨by omega, fun t ht => by have := (h1 t ht).short; omega, fun t ht hk => (h1 t ht).num hk⟩, h2⟩
/- The document's own parser: the reader as it is made, out of the tokens. No walk. -/

def tokK : Kd Tok := ⟨tokC, fun _ _ => True, 3, 102, fun _ _ _ => trivial, fun _ => rfl, by decide⟩
theorem rowOf_eq (l : List Tok) : rowOf l = rowsK tokK l := by
 unfold rowOf rowsK
 rw [List.flatMap_def]
 rfl
theorem toks_lie {w W : World} {v : Value} {ts : List Tok} (h : W.ownsRow w.heap.size 102 3 v ts.length (rowOf ts)) (Y : List Nat) (hY : ∀ b ∈ Y, b < w.heap.size) : Lies (hushL Y W) 3 v (ts.map tokC) := by
 rw [rowOf_eq] at h
 exact (ListIn.lies (K := tokK) (Y := Y) ⟨h, fun _ _ => trivial⟩ hY).1
/-- the reader as it is made -/
theorem pin_start {w W : World} {v : Value} {ts : List Tok} (h : W.ownsRow w.heap.size 102 3 v ts.length (rowOf ts)) :
  PIn (W.alloc (.cells #[v, .int .i64 0, .bool false] 99)) W.heap.size v ts ⟨ts, false⟩ := by
 refine ⟨⟨0, by simp, rfl, heap_alloc_new _ _⟩, ?_⟩
 have h1 := toks_lie h [] (fun b hb => by simp at hb)
 refine h1.keep fun b o u hc => ?_
 obtain ⟨h2, _⟩ := (hushL_cell [] W b o u).1 hc
 have hlt : b < W.heap.size := World.block_lt_of_cell? _ _ h2
 have hne : b ≠ W.heap.size := by omega
 refine (World.cell?_of_block (w := W) (a := ⟨b, o, none⟩) ?_).trans h2
 exact (hush_other _ _ _ hne).trans (heap_alloc_old _ _ hlt)
theorem away_start {_w W : World} {o : Obj} : Away (W.alloc o) W.heap.size [W.heap.size] := ⟨by simp, fun b hb => by
 have e : b = W.heap.size := by simpa using hb
 subst e
 simp⟩
/-- a function, open -/
theorem fn_open {w : World} {F : TreeP.Fn} (h : F.In w) : ∃ nm pl zl cl li pp zp cp lip gk gn gm gp gl gc gq po zo co lio pd zd cd lib ke ne te me pe le ce qe,
  F = ⟨nm, .slice pl zl cl, li, .slice pp zp cp, lip, .mk gk gn gm (.slice gp gl gc) gq, .slice po zo co, lio, .slice pd zd cd, lib, .mk ke ne te me (.slice pe le ce) qe⟩ := by
 obtain ⟨nm, lv, li, pv, lip, g, ov, lio, bv, lib, e⟩ := F
 obtain ⟨h1, ⟨h2, _⟩, h3, h4, ⟨h5, _⟩, h6⟩ := h
 obtain ⟨p1, c1, e1, _⟩ := h1
 obtain ⟨p2, c2, e2, _⟩ := h2
 obtain ⟨p4, c4, e4, _⟩ := h4
 obtain ⟨p5, c5, e5, _⟩ := h5
 simp only at e1 e2 e4 e5
 obtain ⟨gk, gn, gm, gp, gl, gc, gq, rfl⟩ := ty_open h3
 obtain ⟨ke, ne, te, me, pe, le, ce, qe, rfl⟩ := ex_open h6
 exact ⟨_, _, _, _, _, _, _, _, _, _, _, _, _, _, _, _, _, _, _, _, _, _, _, _, _, _, _, _, _, _, _, _, by rw [e1, e2, e4, e5]⟩
end Go.Proofs.YtemflcojebanlaaGreatDoor.ParC
/- The contract of the document's answer: lienbookref01.Lex comes to what the plain function lexA gives. -/
namespace Go.Proofs.YtemflcojebanlaaGreatDoor.LexC
open Go Go.RowKit Go.Lib LexP

def RefPost (r : Sum Nat (List Tok)) (w : World) (e : Ending) (w' : World) : Prop :=
 Below w.heap.size w w' ∧ match r with
 | .inl p => e = .returned (.tuple #[.slice none 0 0, .int .i64 1, .int .i64 (p : Int)])
 | .inr toks => ∃ v, e = .returned (.tuple #[v, .int .i64 0, .int .i64 0]) ∧ w'.ownsRow w.heap.size 102 3 v toks.length (rowOf toks)

set_option maxHeartbeats 8000000 in
set_option maxRecDepth 100000 in
theorem ref_any (s : ByteArray) (w : World) (hs : s.size ≤ 20000) :
  Calls Tryz.prog 46 #[.string s] w fun e w' => RefPost (lexA s.data.toList) w e w' := by
 obtain ⟨i0, hi, hz0, hz1, hz2⟩ := info_parts tok_info
 have HSZ := hid (Lib.size_eq s)
 go_enter Tryz.func46, Tryz.ntmps46
 go_wp2_with fail
 go_loopg [5, 6] s.size (fun gf v u wx => ∃ (a : Nat) (acc : List Tok), u = .int .i64 (a : Int) ∧ a ≤ s.size ∧ s.size ≤ a + gf ∧ acc.length ≤ a ∧
  Hid (FRel s.data.toList a acc) ∧ Below w.heap.size w wx ∧ Hid (wx.ownsRow w.heap.size 102 3 v acc.length (rowOf acc)))
 case atStart => exact ⟨0, [], rfl, by omega, by omega, by simp, hid (frel_start _), Below.refl _ _, hid (World.ownsRow_nil _ _ _ _)⟩
 case round =>
  obtain ⟨a, acc, rfl, ha, hg, hacc, HF, hb, HO⟩ := hrel
  by_cases hlt : a < s.size
  ·obtain ⟨c, hc, hc2⟩ := at_get s a hlt
   have HC := hid hc2
   clear hc2
   by_cases hbl : isBl c = true
   ·have K := hid (frel_blank HF.out HC.out hbl)
    have hd : c.toNat = 32 ∨ c.toNat = 9 ∨ c.toNat = 10 := by simpa [isBl, or_assoc] using hbl
    clear hbl
    rcases hd with h | h | h
    ·have e1 : ((c.toNat : Int) == 32) = true := by rw [h]; rfl
     clear h
     go_wp2_with fail
     go_roundg (gk - 1)
     case measure => omega
     case rel => exact ⟨a + 1, acc, by go_num, by omega, by omega, by omega, K, hb, HO⟩
    ·have e1 : ((c.toNat : Int) == 32) = false := by rw [h]; rfl
     have e2 : ((c.toNat : Int) == 9) = true := by rw [h]; rfl
     clear h
     go_wp2_with fail
     go_roundg (gk - 1)
     case measure => omega
     case rel => exact ⟨a + 1, acc, by go_num, by omega, by omega, by omega, K, hb, HO⟩
    ·have e1 : ((c.toNat : Int) == 32) = false := by rw [h]; rfl
     have e2 : ((c.toNat : Int) == 9) = false := by rw [h]; rfl
     have e3 : ((c.toNat : Int) == 10) = true := by rw [h]; rfl
     clear h
     go_wp2_with fail
     go_roundg (gk - 1)
     case measure => omega
     case rel => exact ⟨a + 1, acc, by go_num, by omega, by omega, by omega, K, hb, HO⟩
   ·have hbf : isBl c = false := by simpa using hbl
    have hd : ¬ c.toNat = 32 ∧ ¬ c.toNat = 9 ∧ ¬ c.toNat = 10 := by simpa [isBl, and_assoc] using hbf
    have e1 : ((c.toNat : Int) == 32) = false := by simp; omega
    have e2 : ((c.toNat : Int) == 9) = false := by simp; omega
    have e3 : ((c.toNat : Int) == 10) = false := by simp; omega
    clear hbl hd
    by_cases hr : rem (s.data.toList.drop a) = true
    ·obtain ⟨h47, d, hd2, hd47⟩ := (rem_at HC.out).1 hr
     have h1 : a + 1 < s.size := by rw [HSZ.out]; exact (List.getElem?_eq_some_iff.1 hd2).1
     obtain ⟨d', hd, hd3⟩ := at_get s (a + 1) h1
     obtain rfl : d = d' := by rw [hd2] at hd3; exact Option.some.inj hd3
     have e47 : ((c.toNat : Int) == 47) = true := by rw [h47]; rfl
     have ed47 : ((d.toNat : Int) == 47) = true := by rw [hd47]; rfl
     have hp := (rem_blank _ hr).2
     have HP := hid hp
     have K := hid (frel_rem HF.out hr)
     have hdl : (s.data.toList.drop a).length = s.size - a := by rw [List.length_drop, ← HSZ.out]
     have HD := hid hdl
     clear hr h47 hd47 hd2 hd3 hp hdl hbf HF
     obtain ⟨wo, rfl⟩ : ∃ wo : World, wo = wr := ⟨_, rfl⟩
     obtain ⟨gO, rfl⟩ : ∃ g : Nat, g = gk := ⟨_, rfl⟩
     go_wp2_with fail
     clear e1 e2 e3 e47 ed47 hd hc
     go_loopg [6] (s.size - a) (fun gf v wx => ∃ n : Nat, v = .int .i64 ((a + n : Nat) : Int) ∧ a + n ≤ s.size ∧ s.size ≤ a + n + gf ∧ Hid (SRel inRem (s.data.toList.drop a) n) ∧ wx = wo)
     case atStart => exact ⟨0, by go_num, by omega, by omega, hid (srel_zero _ _), rfl⟩
     case round =>
      obtain ⟨n, rfl, hn, hg', HR, rfl⟩ := hrel
      by_cases hlt' : a + n < s.size
      ·obtain ⟨x, hx, hx2⟩ := at_get s (a + n) hlt'
       have hx3 : (s.data.toList.drop a)[n]? = some x := by rw [List.getElem?_drop]; exact hx2
       cases hx10 : inRem x with
       | true =>
        have K2 := hid (srel_step HR.out hx3 hx10)
        have e10 : ((x.toNat : Int) != 10) = true := by simp [inRem] at hx10; simp; omega
        clear hx2 hx3 hx10 HR K
        go_wp2_with fail
        go_roundg (gk - 1)
        case measure => omega
        case rel => exact ⟨n + 1, by go_num, by omega, by omega, K2, rfl⟩
       | false =>
        have K2 := srel_stop HR.out hx3 hx10
        have e10 : ((x.toNat : Int) != 10) = false := by simp [inRem] at hx10; simp; omega
        have hpos : 0 < n := by have := HP.out; omega
        have K3 := K.out
        rw [K2] at K3
        have K4 := hid K3
        clear hx2 hx3 hx10 HR K K2 K3
        go_wp2_with fail
        go_roundg (s.size - (a + n))
        case measure => omega
        case rel => exact ⟨a + n, acc, by go_num, by omega, by omega, by omega, K4, hb, HO⟩
      ·have K2 := srel_end HR.out (by rw [HD.out]; omega)
       have hpos : 0 < n := by have := HP.out; omega
       have K3 := K.out
       rw [K2] at K3
       have K4 := hid K3
       clear HR K K2 K3
       go_wp2_with fail
       go_roundg (s.size - (a + n))
       case measure => omega
       case rel => exact ⟨a + n, acc, by go_num, by omega, by omega, by omega, K4, hb, HO⟩
    ·have hrf : rem (s.data.toList.drop a) = false := by simpa using hr
     have K := frel_one HF.out HC.out hbf hrf
     have hsl := signN_le (s.data.toList.drop a)
     rw [List.length_drop, ← HSZ.out] at hsl
     have c1 : ∀ W, Calls Tryz.prog 79 _ W _ := fun W => rtoken_any s a W (by omega) hlt
     have htxt : ∀ b, s.extract a (a + b) = ⟨((s.data.toList.drop a).take b).toArray⟩ := fun b => by rw [Lib.extract_eq]; simp
     have hk0 := signK_zero (s.data.toList.drop a)
     have hk1 : signN (s.data.toList.drop a) ≠ 0 → signK (s.data.toList.drop a) ≠ 0 := by
      unfold signN signK
      intro h1 h2
      repeat (first | (split at h1) | (split at h2) | omega)
     unfold tokEnd at c1
     obtain ⟨z, hz⟩ : ∃ z, signN (s.data.toList.drop a) = z := ⟨_, rfl⟩
     obtain ⟨k, hk⟩ : ∃ k, signK (s.data.toList.drop a) = k := ⟨_, rfl⟩
     rw [hz, hk] at c1 hk1
     rw [hz] at hsl hk0
     rw [hk] at hk0
     rw [hz, hk] at K
     have ways : (((c.toNat : Int) == 47) = false) ∨ (((c.toNat : Int) == 47) = true ∧ ¬ a + 1 < s.size) ∨ (((c.toNat : Int) == 47) = true ∧ ∃ d, ∃ h : a + 1 < s.size, s[a + 1]'h = d ∧ ((d.toNat : Int) == 47) = false) := by
      by_cases h47 : c.toNat = 47
      ·have e : ((c.toNat : Int) == 47) = true := by rw [h47]; rfl
       by_cases h1 : a + 1 < s.size
       ·obtain ⟨d, hd, hd2⟩ := at_get s (a + 1) h1
        refine .inr (.inr ⟨e, d, h1, hd, ?_⟩)
        simp only [beq_eq_false_iff_ne, ne_eq]
        intro hd47
        exact hr ((rem_at HC.out).2 ⟨h47, d, hd2, by omega⟩)
       ·exact .inr (.inl ⟨e, h1⟩)
      ·exact .inl (by simp; omega)
     have HH := hid (htxt z)
     clear htxt hr hrf hbf HF hz hk
     by_cases hz0' : z = 0
     ·subst hz0'
      obtain rfl : k = 0 := hk0 rfl
      have KK := hid (K.1 rfl)
      rw [if_pos rfl] at c1
      have C1 := hid c1
      clear c1 K hk0 hk1 HC
      rcases ways with w1 | ⟨w1, w2⟩ | ⟨w1, d, w2, w3, w4⟩
      all_goals
       go_wp2_with fail
       refine (C1.out _).mono ?_
       rintro e W1 ⟨rfl, q, rfl⟩
       go_wp2_with fail
       go_ret3
       rw [KK.out]
       exact ⟨below_drewN' hb _, rfl⟩
     ·have KK := hid (K.2 hz0')
      have hk1' := hk1 hz0'
      rw [if_neg hz0', show ((a + z : Nat) : Int) = (a : Int) + (z : Int) by omega] at c1
      have C1 := hid c1
      have hkz : ((k : Int) == 0) = false := by simp; omega
      clear c1 K hk0 hk1 HC hk1'
      rcases ways with w1 | ⟨w1, w2⟩ | ⟨w1, d, w2, w3, w4⟩
      all_goals
       go_wp2_with fail
       refine (C1.out _).mono ?_
       rintro e W1 ⟨rfl, q, rfl⟩
       have B := below_drewN' hb q
       have HO1 : Hid ((wr.drewN q).ownsRow w.heap.size 102 3 _ acc.length (rowOf acc)) := hid (owns_below HO.out (below_drewN' (Below.refl _ _) q))
       clear hb HO
       obtain ⟨W1, hW1⟩ : ∃ W1, wr.drewN q = W1 := ⟨_, rfl⟩
       rw [hW1] at B HO1 ⊢
       clear hW1
       go_wp2_with (at_builtin; refine wpList_append_own _ rfl _ _ 94 rfl w.heap.size 102 i0 _ 3 32 Tryz.underlying94 hi hz0 hz1 hz2 rfl (by decide) _ _ _ rfl (HO1.out.alloc _) ⟨W1.heap.size, 0, none⟩ 1 1 [.int .i64 (k : Int), .int .i64 (a : Int), .string (s.extract a (a + z))] rfl rfl ?c1 ?c2 ?c3 ?c4 ?c5 ?_)
       case c1 =>
        intro j u hj
        match j, hj with
        | 0, hj => simp at hj; subst hj; simp [Addr.add]
        | 1, hj => simp at hj; subst hj; simp [Addr.add]
        | 2, hj => simp at hj; subst hj; simp [Addr.add]
       case c2 => intro u hu; simp at hu; rcases hu with rfl | rfl | rfl <;> rfl
       case c3 => unfold maxLen; omega
       case c4 => omega
       case c5 => have := B.size; simp; omega
       intro v' w2' hown' hgrow _
       have B2 : Below w.heap.size w w2' := (B.alloc B.size _).grown hgrow (by have := B.size; simp; omega) (fun i hi => (HO1.out.lt i hi).1)
       have HO2 : Hid (w2'.ownsRow w.heap.size 102 3 v' (acc ++ [Tok.mk k a ((s.data.toList.drop a).take z)]).length (rowOf (acc ++ [Tok.mk k a ((s.data.toList.drop a).take z)]))) := by
        rw [rowOf_snoc, List.length_append]
        unfold tokCells
        rw [← HH.out]
        exact hid hown'
       clear hown' hgrow HO1 B HH
       go_wp2_with fail
       go_roundg (s.size - (a + z))
       case measure => omega
       case rel => exact ⟨a + z, acc ++ [Tok.mk k a ((s.data.toList.drop a).take z)], by go_num, by omega, by omega, by simp; omega, KK, B2, HO2⟩
  ·have K := hid (frel_end HF.out (by rw [← HSZ.out]; omega))
   go_wp2_with fail
   go_ret3
   rw [K.out]
   exact ⟨hb, _, rfl, HO.out⟩
end Go.Proofs.YtemflcojebanlaaGreatDoor.LexC
/- The document's own parser: Parse, of a text that lexes. -/
namespace Go.Proofs.YtemflcojebanlaaGreatDoor.ParC
open Go Go.RowKit Go.Lib Go.Sort LexP TreeP LexC TreeC PageC TextC ParP

theorem below_step {w W0 wr : World} {pb : Nat} (h : Below w.heap.size w W0) (st : Step pb none W0 none wr) (hp : w.heap.size ≤ pb) : Below w.heap.size w wr :=
 ⟨st.os.trans h.os, st.tape.trans h.tape, st.output.trans h.output, Nat.le_trans h.size st.size, fun k hk => (st.block k (Nat.lt_of_lt_of_le hk h.size) (by omega) (by simp)).trans (h.block k hk)⟩
/-- what Parse answers of what was read -/
def ParsePost (x : ByteArray) (r : List PF × S) (w : World) (e : Ending) (w' : World) : Prop :=
  Below w.heap.size w w' ∧
  ((r.2.wr = true ∧ ((∃ t us, r.2.rest = t :: us ∧ e = .returned (.tuple #[.slice none 0 0, .int .i64 2, .int .i64 (t.at_ : Int)])) ∨ (r.2.rest = [] ∧ e = .returned (.tuple #[.slice none 0 0, .int .i64 2, .int .i64 (x.size : Int)])))) ∨
   (r.2.wr = false ∧ ∃ l : List TreeP.Fn, l.map erF = r.1 ∧ ((rightP l = true ∧ ∃ v, e = .returned (.tuple #[v, .int .i64 0, .int .i64 (-1)]) ∧ ProgIn w' v l) ∨ (rightP l = false ∧ e = .returned (.tuple #[.slice none 0 0, .int .i64 3, .int .i64 (-1)])))))
set_option maxHeartbeats 8000000 in
set_option maxRecDepth 100000 in
theorem parse_read (x : ByteArray) (w : World) (hx : x.size ≤ 20000) (ts : List Tok) (hL : lexA x.data.toList = .inr ts) (hwt : ∀ l : List TreeP.Fn, l.map erF = (fnsS ts.length ts.length ⟨ts, false⟩).1 → (fnsS ts.length ts.length ⟨ts, false⟩).2.wr = false → wFs l ≤ 1048576) :
  Calls Tryz.prog 29 #[.string x] w (ParsePost x (fnsS ts.length ts.length ⟨ts, false⟩) w) := by
 have hk : x.data.toList.length ≤ 20000 := by have := Lib.size_eq x; simp at this ⊢; omega
 obtain ⟨hT, hlen⟩ := toks_ok hL (by omega)
 have HL := hid (ref_any x w hx)
 have HLA := hid hL
 have HWt := hid hwt
 clear hL hwt
 go_enter Tryz.func29, Tryz.ntmps29
 go_wp2_with fail
 refine HL.out.mono ?_
 rintro e W1 ⟨hb, hpost⟩
 rw [HLA.out] at hpost
 obtain ⟨v, rfl, hown⟩ := hpost
 obtain ⟨p, c, hv, _, _⟩ := id (toks_lie hown [] (fun b hb => by simp at hb))
 rw [List.length_map] at hv
 subst hv
 have HPI := hid (pin_start hown)
 have HAt := hid (At.start HPI.out)
 have HAw := hid (away_start (_w := w) (W := W1) (o := .cells #[.slice p ts.length c, .int .i64 0, .bool false] 99))
 have HB := hid hb
 clear hown hb HL HLA
 go_wp2_with fail
 generalize hW : W1.alloc (.cells #[.slice p ts.length c, .int .i64 0, .bool false] 99) = W0 at *
 generalize hpb : W1.heap.size = pb at *
 have HW := hid hW
 have Hpb := hid hpb
 have HLn := hid (ListIn.nil fnK W0.heap.size W0 [pb])
 have hlen2 : ts.length ≤ 20000 := by omega
 have HY := hid HAw.out.lt
 have HB0 := hid (show Below w.heap.size w W0 by rw [← hW]; exact HB.out.alloc HB.out.size _)
 have HPb := hid (show w.heap.size ≤ pb by rw [← hpb]; exact HB.out.size)
 clear hW hpb
 go_loopg [9, 10] (ts.length + 1) (fun gf u9 u10 wx => ∃ (l : List TreeP.Fn) (s1 : S) (p9 : Option Addr) (z9 c9 : Nat), u9 = .slice p9 z9 c9 ∧ (s1.wr = true ∨ s1.rest.length + 1 ≤ gf) ∧ l.length + gf ≤ ts.length + 1 ∧ s1.rest.length ≤ ts.length ∧ Hid (fnsS ts.length ts.length ⟨ts, false⟩ = (l.map erF ++ (fnsS ts.length (gf - 1) s1).1, (fnsS ts.length (gf - 1) s1).2)) ∧ Hid (ListIn fnK W0.heap.size wx [pb] (.slice p9 z9 c9) l) ∧ Hid (At W0 pb (.slice p ts.length c) ts ⟨ts, false⟩ wx s1))
 case atStart => exact ⟨[], _, none, 0, 0, rfl, .inr (by simp), by simp, by simp, hid (by simp), HLn, HAt⟩
 case round =>
  clear HLn HAt
  obtain ⟨l, s1, p9, z9, c9, rfl, hg1, hcnt, hle, HP, HI, HA1⟩ := hrel
  obtain ⟨i, hi1, hi2, hi3⟩ := HA1.out.pin.box
  obtain ⟨_, q1, q2⟩ := pin_cells hi3
  cases hw : s1.wr with
  | true =>
   rw [hw] at q2
   have hR : fnsS ts.length ts.length ⟨ts, false⟩ = (l.map erF, s1) := by
    have hr := HP.out
    rw [show fnsS ts.length (gk - 1) s1 = ([], s1) by cases gk - 1 <;> simp [fnsS, hw]] at hr
    simpa using hr
   have HR := hid hR
   have HWr := hid hw
   have HBf := hid (below_step HB0.out HA1.out.step HPb.out)
   clear hR hw
   by_cases hlt : i < ts.length
   ·obtain ⟨t, us, hr⟩ : ∃ t us, s1.rest = t :: us := by
     cases hr : s1.rest with
     | nil => rw [hr] at hi1; simp at hi1; omega
     | cons t us => exact ⟨t, us, rfl⟩
    have hti : ts[i]? = some t := by
     have := congrArg (·[0]?) hi2
     rw [hr] at this
     simpa using this
    obtain ⟨tb, toff, tcap, hlv, hcap, k0, k1, k2⟩ := tok_at HA1.out.pin hti
    have hli : (i : Int) < (ts.length : Int) := by omega
    injection hlv with h1 _ h3
    subst h1
    subst h3
    have HRs := hid hr
    clear hr hti hi2 hi3 k0 k2 hg1
    go_wp2_with fail
    go_quiet (fail)
    go_wp2_with fail
    go_ret3
    refine ⟨HBf.out.trans ((show Below wr.heap.size wr (wr.drewN _) from ⟨rfl, rfl, rfl, Nat.le_refl _, fun _ _ => rfl⟩).mono (Nat.le_trans HB0.out.size HA1.out.step.size)), .inl ⟨by rw [HR.out]; exact HWr.out, .inl ⟨t, us, by rw [HR.out]; exact HRs.out, ?_⟩⟩⟩
    rfl
   ·have hr0 : s1.rest = [] := by
     cases hr : s1.rest with
     | nil => rfl
     | cons t us => rw [hr] at hi1; simp at hi1; omega
    have hge : ¬ ((i : Int) < (ts.length : Int)) := by omega
    have HRs := hid hr0
    clear hr0 hi2 hi3 hg1
    go_wp2_with fail
    go_ret3
    refine ⟨HBf.out, .inl ⟨by rw [HR.out]; exact HWr.out, .inr ⟨by rw [HR.out]; exact HRs.out, ?_⟩⟩⟩
    rfl
  | false =>
   rw [hw] at q2
   by_cases hlt : i < ts.length
   ·have HF := hid (fn_any pb (.slice p ts.length c) ts ts.length (by omega) hT wr s1 (blk (.slice p9 z9 c9) ++ [pb]) ⟨by simp, fun q hq => by
     rcases List.mem_append.1 hq with h | h
     ·exact (HI.out.lt q (mem_blk h)).2
     ·exact Nat.lt_of_lt_of_le (HY.out q h) HA1.out.step.size⟩ HA1.out.pin hle)
    have hli : (i : Int) < (ts.length : Int) := by omega
    have HW1 := hid hw
    clear hw
    go_wp2_with fail
    refine HF.out.mono ?_
    rintro e W3 ⟨F, rfl, hin, her, hp, hs⟩
    obtain ⟨nm, pl, zl, cl, li, pp, zp, cp, lip, gk1, gn, gm, gp, gl, gc, gq, po, zo, co, lio, pd, zd, cd, lib, ke, ne, te, me, pe, le, ce, qe, rfl⟩ := fn_open hin
    rw [show TreeP.Fn.val ⟨nm, .slice pl zl cl, li, .slice pp zp cp, lip, .mk gk1 gn gm (.slice gp gl gc) gq, .slice po zo co, lio, .slice pd zd cd, lib, .mk ke ne te me (.slice pe le ce) qe⟩ = .agg #[.string nm, .slice pl zl cl, .slice pp zp cp, .int .i64 gk1, .string gn, .bool gm, .slice gp gl gc, .slice po zo co, .slice pd zd cd, .int .i64 ke, .int .i64 ne, .string te, .bool me, .slice pe le ce] from rfl]
    have b3 : Below W3.heap.size W3 ((W3.alloc (.cells #[.string nm, .slice pl zl cl, .slice pp zp cp, .int .i64 gk1, .string gn, .bool gm, .slice gp gl gc, .slice po zo co, .slice pd zd cd, .int .i64 ke, .int .i64 ne, .string te, .bool me, .slice pe le ce] 42)).alloc (.cells #[.string nm, .slice pl zl cl, .slice pp zp cp, .int .i64 gk1, .string gn, .bool gm, .slice gp gl gc, .slice po zo co, .slice pd zd cd, .int .i64 ke, .int .i64 ne, .string te, .bool me, .slice pe le ce] 42)) := ((Below.refl _ W3).alloc (Nat.le_refl _) _).alloc (by simp) _
    have HA4 := hid ((HA1.out.call hp hs).below b3)
    have HI4 := hid ((HI.out.step hs (by simp) HY.out).below b3 HY.out)
    have HT4 := hid (show fnK.InP (hushL (blk (.slice p9 z9 c9) ++ [pb]) _) _ from Fn.In.keep (keepsL_below b3) hin)
    have HN4 := hid (show ((W3.alloc (.cells #[.string nm, .slice pl zl cl, .slice pp zp cp, .int .i64 gk1, .string gn, .bool gm, .slice gp gl gc, .slice po zo co, .slice pd zd cd, .int .i64 ke, .int .i64 ne, .string te, .bool me, .slice pe le ce] 42)).alloc (.cells #[.string nm, .slice pl zl cl, .slice pp zp cp, .int .i64 gk1, .string gn, .bool gm, .slice gp gl gc, .slice po zo co, .slice pd zd cd, .int .i64 ke, .int .i64 ne, .string te, .bool me, .slice pe le ce] 42)).heap[W3.heap.size + 1]? = some (.cells (fnK.cells ⟨nm, .slice pl zl cl, li, .slice pp zp cp, lip, .mk gk1 gn gm (.slice gp gl gc) gq, .slice po zo co, lio, .slice pd zd cd, lib, .mk ke ne te me (.slice pe le ce) qe⟩).toArray fnK.type (0, 0)) from (alloc2 _ _ _).2)
    have HB4 := hid (show W0.heap.size ≤ _ from Nat.le_trans HA1.out.step.size (Nat.le_trans hs.size b3.size))
    have HO4 := hid (fn_all nm pl zl cl pp zp cp gk1 gn gm gp gl gc po zo co pd zd cd ke ne te me pe le ce)
    have HE := hid her
    have HPr := hid (fn_prog ts.length s1 HW1.out)
    have hfl := fn_le ts.length s1
    clear hin her hp hs HF HA1 HI b3 hi3 q1 q2
    go_wp2_with (first | (at_builtin; refine wpList_append_kd fnOk rfl _ _ rfl W0.heap.size _ l rfl HI4.out (W3.heap.size + 1) ⟨nm, .slice pl zl cl, li, .slice pp zp cp, lip, .mk gk1 gn gm (.slice gp gl gc) gq, .slice po zo co, lio, .slice pd zd cd, lib, .mk ke ne te me (.slice pe le ce) qe⟩ rfl HN4.out HT4.out HO4.out ?cc HB4.out ?_))
    case cc => omega
    intro v5 W5 hl5 hg5
    obtain ⟨p5, z5, c5, rfl⟩ := hl5.form
    have HA5 := hid (HA4.out.grown (fun g e => (HI4.out.lt g e).1) hg5)
    have HL5 := hid hl5
    clear hl5 hg5 HA4 HI4 HT4 HN4 HB4 HO4
    go_wp2_with fail
    have hfu2 : s1.rest.length + 1 ≤ gk := hg1.resolve_left (by simp [HW1.out])
    go_roundg (gk - 1)
    case measure => omega
    case rel =>
     refine ⟨l ++ [⟨nm, .slice pl zl cl, li, .slice pp zp cp, lip, .mk gk1 gn gm (.slice gp gl gc) gq, .slice po zo co, lio, .slice pd zd cd, lib, .mk ke ne te me (.slice pe le ce) qe⟩], (fnS ts.length s1).2, p5, z5, c5, rfl, ?_, by simp; omega, by omega, hid ?_, HL5, HA5⟩
     ·rcases HPr.out with h | h
      ·exact .inl h
      ·exact .inr (by omega)
     ·have hr := HP.out
      obtain ⟨m, hm⟩ : ∃ m, gk - 1 = m + 1 := ⟨gk - 2, by omega⟩
      rw [hm, fnsS, if_neg (by
       have h0 : s1.rest ≠ [] := fun h => by rw [h] at hi1; simp at hi1; omega
       simp [HW1.out, h0])] at hr
      rw [hm, Nat.add_sub_cancel, List.map_append, List.append_assoc, List.map_cons, List.map_nil, HE.out]
      simpa using hr
   ·have hr0 : s1.rest = [] := by
     cases hr : s1.rest with
     | nil => rfl
     | cons t us => rw [hr] at hi1; simp at hi1; omega
    have hR : fnsS ts.length ts.length ⟨ts, false⟩ = (l.map erF, s1) := by
     have hr := HP.out
     rw [show fnsS ts.length (gk - 1) s1 = ([], s1) by cases gk - 1 <;> simp [fnsS, hr0]] at hr
     simpa using hr
    have HR := hid hR
    have hge : ¬ ((i : Int) < (ts.length : Int)) := by omega
    have HRt := hid (fun W (k : Keeps (hushL [pb] wr) W) => rRight_any l W (.slice p9 z9 c9) (HWt.out l (by rw [hR]) (by rw [hR]; exact hw)) (ProgIn.keep k ⟨(HI.out.lies HY.out).1, (HI.out.lies HY.out).2⟩))
    have HK := hid (keepsL_sub (X := [pb]) (Y := []) wr (by simp))
    have HWr := hid hw
    clear hR hr0 hw
    go_wp2_with fail
    refine (HRt.out wr HK.out).mono ?_
    rintro e W3 ⟨rfl, hb3⟩
    have HBf := hid ((below_step HB0.out HA1.out.step HPb.out).trans (hb3.mono (Nat.le_trans HB0.out.size HA1.out.step.size)))
    have HPi := hid (show ProgIn W3 (.slice p9 z9 c9) l from ProgIn.keep (Keeps.trans HK.out (keepsL_below (X := []) hb3)) ⟨(HI.out.lies HY.out).1, (HI.out.lies HY.out).2⟩)
    clear hb3 HRt
    cases hrp : rightP l with
    | true =>
     have HQ := hid hrp
     clear hrp
     go_wp2_with fail
     go_ret3
     exact ⟨HBf.out, .inr ⟨by rw [HR.out]; exact HWr.out, l, by rw [HR.out], .inl ⟨HQ.out, _, rfl, HPi.out⟩⟩⟩
    | false =>
     have HQ := hid hrp
     clear hrp
     go_wp2_with fail
     go_ret3
     exact ⟨HBf.out, .inr ⟨by rw [HR.out]; exact HWr.out, l, by rw [HR.out], .inr ⟨HQ.out, rfl⟩⟩⟩
end Go.Proofs.YtemflcojebanlaaGreatDoor.ParC
/- Contracts of the statements' of, told and awake of layer 4. -/
namespace Go.Proofs.YtemflcojebanlaaGreatDoor.NmC
open Go Go.RowKit Go.Lib Go.Sort Go.Maps LexP TreeP LexC TreeC NmP ErrAs ParP ParC

set_option maxHeartbeats 2000000 in
theorem of_read (x : ByteArray) (w : World) (hx : x.size ≤ 20000) (h1 : lexed x.data.toList = true) (h2 : endOf x.data.toList = (false, 0)) (h3 : rightP ((readOf x.data.toList).map liF) = true) (h4 : wFs ((readOf x.data.toList).map liF) ≤ 1000) :
  Calls Tryz.prog 14 #[.string x] w fun e w' => ∃ v l, e = .returned v ∧ ProgIn w' v l ∧ l.map blF = (readOf x.data.toList).map liF ∧ Below w.heap.size w w' := by
 have hL := lexA_of h1
 have c1 := parse_read x w hx (toksOf x.data.toList) hL (fun l hl _ => by
  have := of_er hl
  rw [← wFs_bl, this]
  exact Nat.le_trans h4 (by omega))
 have hwr : (fnsS (toksOf x.data.toList).length (toksOf x.data.toList).length ⟨toksOf x.data.toList, false⟩).2.wr = false := congrArg Prod.fst h2
 have C1 : Hid (Calls Tryz.prog 29 #[.string x] w fun e w' => ∃ v l, e = .returned (.tuple #[v, .int .i64 0, .int .i64 (-1)]) ∧ ProgIn w' v l ∧ l.map blF = (readOf x.data.toList).map liF ∧ Below w.heap.size w w') := hid (c1.mono fun e w' h => by
  obtain ⟨hb, ⟨h, _⟩ | ⟨_, l, hl, hr⟩⟩ := h
  ·rw [hwr] at h; cases h
  ·have hbl := of_er hl
   rcases hr with ⟨_, v, he, hin⟩ | ⟨hf, _⟩
   ·exact ⟨v, l, he, hin, hbl, hb⟩
   ·rw [← rightP_bl, hbl] at hf
    have : rightP ((readOf x.data.toList).map liF) = false := hf
    rw [h3] at this; cases this)
 clear c1 hwr hL h1 h2 h3 h4
 go_enter Tryz.func14, Tryz.ntmps14
 go_wp2_with fail
 refine C1.out.mono ?_
 rintro e W1 ⟨v, l, rfl, hin, hbl, hb⟩
 go_wp2_with fail
 go_ret
 exact ⟨v, l, rfl, hin, hbl, hb⟩
set_option maxHeartbeats 1000000 in
theorem told_nil (w : World) : Calls Tryz.prog 9 #[.nilIface, .int .i64 0, .int .i64 (-1)] w fun r w' => r = .returned (.bool true) ∧ Below w.heap.size w w' := by
 have C1 := hid (code_nil w)
 go_enter Tryz.func9, Tryz.ntmps9
 go_wp2_with fail
 refine C1.out.mono ?_
 rintro e W1 ⟨rfl, rfl⟩
 go_wp2_with fail
 go_ret
 exact ⟨rfl, Below.refl _ _⟩
set_option maxHeartbeats 1000000 in
theorem told_code (w : World) (hv : ErrVar w) : Calls Tryz.prog 9 #[.iface 55 (.int .i64 2), .int .i64 2, .int .i64 (-1)] w fun r w' => r = .returned (.bool true) ∧ Below w.heap.size w w' := by
 have C1 := hid (code_code 2 w (by decide) hv)
 go_enter Tryz.func9, Tryz.ntmps9
 go_wp2_with fail
 refine C1.out.mono ?_
 rintro e W1 ⟨rfl, hb⟩
 go_wp2_with fail
 go_ret
 exact ⟨rfl, hb⟩
set_option maxHeartbeats 1000000 in
theorem told_fault (b : Nat) (p n : Int) (w : World) (hn : 0 < n) (hp : 0 ≤ p) (hv : ErrVar w) (hf : FaultAt w b p n) : Calls Tryz.prog 9 #[.iface 56 (.pointer (some ⟨b, 0, none⟩)), .int .i64 n, .int .i64 p] w fun r w' => r = .returned (.bool true) ∧ Below w.heap.size w w' := by
 have c1 := fault_fault b p p n w hn hv hf
 rw [beq_self_eq_true] at c1
 have C1 := hid c1
 clear c1 hf
 go_enter Tryz.func9, Tryz.ntmps9
 go_wp2_with fail
 refine C1.out.mono ?_
 rintro e W1 ⟨rfl, hb⟩
 go_wp2_with fail
 go_ret
 exact ⟨rfl, hb⟩
/-- what Check answers is told as the document says it -/
theorem told_check {w W : World} {ca : Int × Int} {r : Ending} (h : CkPost w ca r W) (hv : ErrVar W) : ∃ v, r = .returned v ∧ Calls Tryz.prog 9 #[v, .int .i64 ca.1, .int .i64 ca.2] W fun r w' => r = .returned (.bool true) ∧ Below W.heap.size W w' := by
 obtain ⟨_, ⟨rfl, rfl⟩ | ⟨rfl, rfl⟩ | ⟨h1, h2, b, rfl, hf⟩⟩ := h
 ·exact ⟨_, rfl, told_code W hv⟩
 ·exact ⟨_, rfl, told_nil W⟩
 ·exact ⟨_, rfl, told_fault b _ _ W h1 h2 hv hf⟩
set_option maxHeartbeats 4000000 in
set_option maxRecDepth 100000 in
theorem awake4 (w : World) (T : Tabs w) (E : ErrVar w) : Calls Tryz.prog 6 #[] w fun r w' => r = .returned (.bool true) ∧ Below w.heap.size w w' := by
 have C1 := hid (fun (W : World) => of_read ⟨tx1.toArray⟩ W (by decide) lexed1 end1 right1 w1)
 have C2 := hid (fun (W : World) => of_read ⟨tx2.toArray⟩ W (by decide) lexed2 end2 right2 w2)
 have K1 := hid (fun (v : Value) (l : List TreeP.Fn) (W : World) (hb : Below w.heap.size w W) (hin : ProgIn W v l) (h : l.map blF = (readOf tx1).map liF) => check_any l v W (by rw [← wFs_bl, h]; exact Nat.le_trans w1 (by omega)) hin (T.below hb))
 have K2 := hid (fun (v : Value) (l : List TreeP.Fn) (W : World) (hb : Below w.heap.size w W) (hin : ProgIn W v l) (h : l.map blF = (readOf tx2).map liF) => check_any l v W (by rw [← wFs_bl, h]; exact Nat.le_trans w2 (by omega)) hin (T.below hb))
 have HE := hid E
 clear T E
 go_enter Tryz.func6, Tryz.ntmps6
 go_wp2_with fail
 refine (C1.out _).mono ?_
 rintro e W1 ⟨v1, l1, rfl, hin1, hl1, hb1⟩
 have B1 := hid hb1
 have k1 := K1.out v1 l1 W1 hb1 hin1 hl1
 rw [← checkN_bl, hl1, check1] at k1
 have KK1 : Hid (Calls Tryz.prog 10 #[v1] W1 fun r w' => r = .returned .nilIface ∧ Below W1.heap.size W1 w') := hid (k1.mono fun e w' h => by
  obtain ⟨hb, ⟨h, _⟩ | ⟨_, h⟩ | ⟨h, _⟩⟩ := h
  ·cases h
  ·exact ⟨h, hb⟩
  ·cases h)
 clear hin1 hl1 hb1 k1 C1 K1
 go_wp2_with fail
 refine KK1.out.mono ?_
 rintro e W2 ⟨rfl, hb2⟩
 have B2 := hid (B1.out.trans (hb2.mono B1.out.size))
 clear B1 hb2 KK1
 go_wp2_with fail
 refine (C2.out _).mono ?_
 rintro e W3 ⟨v3, l3, rfl, hin3, hl3, hb3⟩
 have B3 := hid (B2.out.trans (hb3.mono B2.out.size))
 have k3 := K2.out v3 l3 W3 B3.out hin3 hl3
 rw [← checkN_bl, hl3, check2] at k3
 have KK3 := hid k3
 clear hin3 hl3 hb3 k3 C2 K2
 go_wp2_with fail
 refine KK3.out.mono ?_
 rintro e W4 h4
 have B4 := hid (B3.out.trans (h4.1.mono B3.out.size))
 obtain ⟨v4, rfl, ht⟩ := told_check h4 (HE.out.below B4.out)
 have TT := hid ht
 clear h4 ht KK3
 go_wp2_with fail
 refine TT.out.mono ?_
 rintro e W5 ⟨rfl, hb5⟩
 go_wp2_with fail
 go_ret
 exact ⟨rfl, B4.out.trans (hb5.mono B4.out.size)⟩
end Go.Proofs.YtemflcojebanlaaGreatDoor.NmC
