/- Texts joined: TreeKit2, NmD, TreeNm, TreeTA. -/
import Derived.Test.YtemflcojebanlaaGreatDoorJ03
import Derived.Test.YtemflcojebanlaaGreatDoorJ00
import Derived.Test.YtemflcojebanlaaGreatDoorJ02
/- A law for a region that draws its order: a struct is read out of the middle of a row, in every world of the class. -/
namespace Go.Proofs.YtemflcojebanlaaGreatDoor.TreeC
open Go Go.RowKit Go.Lib Go.Sort LexP TreeP LexC

section
variable {P : Program}
theorem wpQuiet_load_at {ops : Array Oper} {C : World → Prop} {Q : Act → Prop} {rest : List Oper} {o : Oper} {a : Act} (hw : Region.wanted o (yielded ops a.tmps) = true) (ty : TypeId) (x : Operand) (ho : o.op = .load ty x)
  (b off : Nat) (hx : a.eval x = .pointer (some ⟨b, off, none⟩)) (cs : List Value) (d : TypeDesc) (hc : ∀ w, C w → ∀ (j : Nat) (u : Value), cs[j]? = some u → w.cell? ⟨b, off + j, none⟩ = some u)
  (hu : P.underlying ty = some d) (hd : (match d with | .struct _ | .array _ _ => true | _ => false) = true) (hi : (P.info? ty).map (·.size) = some cs.length)
  (h : wpQuiet P ops C Q rest (a.put o.dst (.agg cs.toArray))) : wpQuiet P ops C Q (o :: rest) a := by
 refine wpQuiet_step fun K hK => ?_
 rw [if_pos hw]
 refine ⟨.agg cs.toArray, fun w hCw => ?_, hK _ h⟩
 unfold Oper.quietAt execOp
 simp only [ho, hx, Instr.loadAt, Instr.sureAddr, Sem.run_bind, Sem.run_pure, Result.andThen_ok, run_loadVar_at w b off ty cs d (hc w hCw) hu hd hi]
 exact ⟨rfl, rfl⟩
end
/-- what is read in a world is read in each of the class -/
theorem reg_cells {w : World} {b off : Nat} {cs : List Value} (h : ∀ (j : Nat) (u : Value), cs[j]? = some u → w.cell? ⟨b, off + j, none⟩ = some u) :
  ∀ w', (∃ p : Regrown, w' = grow (redrawn w p.d) p.os) → ∀ (j : Nat) (u : Value), cs[j]? = some u → w'.cell? ⟨b, off + j, none⟩ = some u := by
 rintro w' ⟨p, rfl⟩ j u hj
 exact cell_regrown (h j u hj) _ _
theorem box_get {w : World} {b : Nat} {cs : List Value} (h : BoxAt w b cs) {j : Nat} {u : Value} (hj : cs[j]? = some u) : w.cell? ⟨b, j, none⟩ = some u := h j u hj
theorem St.at_place {k : Int} {n : ByteArray} {p e : Ex} {tv ev : Value} {thn els : List St} {w : World} {b off : Nat} (h : ∀ (j : Nat) (u : Value), (St.mk k n p e tv thn ev els).cells[j]? = some u → w.cell? ⟨b, off + j, none⟩ = some u) :
  ∀ (j : Nat) (u : Value), p.cells[j]? = some u → w.cell? ⟨b, off + 2 + j, none⟩ = some u := fun j u hj => by
 rw [Nat.add_assoc]; exact h _ u (St.cells_place hj)
theorem St.at_expr {k : Int} {n : ByteArray} {p e : Ex} {tv ev : Value} {thn els : List St} {w : World} {b off : Nat} (h : ∀ (j : Nat) (u : Value), (St.mk k n p e tv thn ev els).cells[j]? = some u → w.cell? ⟨b, off + j, none⟩ = some u) :
  ∀ (j : Nat) (u : Value), e.cells[j]? = some u → w.cell? ⟨b, off + 7 + j, none⟩ = some u := fun j u hj => by
 rw [Nat.add_assoc]; exact h _ u (St.cells_expr hj)
end Go.Proofs.YtemflcojebanlaaGreatDoor.TreeC
/- Contract of lienbookref04's expr: are the names in an expression known? -/
namespace Go.Proofs.YtemflcojebanlaaGreatDoor.NmC
open Go Go.RowKit Go.Lib Go.Sort LexP TreeP LexC TreeC NmP

/-- the functions ahead, as they lie: what their Params' slices are -/
def ParsV (l : List TreeP.Fn) : Prop := ∀ f ∈ l, ∃ p cap, f.parsV = .slice p f.pars.length cap
structure Ahead (w : World) (v : Value) (l : List TreeP.Fn) : Prop where
 lies : Lies w 14 v (l.map TreeP.Fn.cells)
 pars : ParsV l
 len : l.length ≤ 1048576
theorem Ahead.keep {w w' : World} {v : Value} {l : List TreeP.Fn} (h : Ahead w v l) (k : Keeps w w') : Ahead w' v l := ⟨h.lies.keep k, h.pars, h.len⟩
structure Names (w : World) (v : Value) (l : List ByteArray) : Prop where
 lies : Lies w 1 v (l.map nmCells)
 len : l.length ≤ 1048576
theorem Names.keep {w w' : World} {v : Value} {l : List ByteArray} (h : Names w v l) (k : Keeps w w') : Names w' v l := ⟨h.lies.keep k, h.len⟩

set_option maxHeartbeats 4000000 in
set_option maxRecDepth 100000 in
theorem rExpr_any : ∀ (n : Nat) (t : Ex) (scope : List ByteArray) (sv : Value) (ahead : List TreeP.Fn) (av : Value) (w : World), wE t ≤ n → n ≤ 1048576 → t.In w → Names w sv scope → Ahead w av ahead →
  Calls Tryz.prog 35 #[t.val, sv, av] w fun r w' => r = .returned (.bool (exprN (scope.map bs) ahead t)) ∧ Below w.heap.size w w' := by
 intro n
 induction n with
 | zero => intro t scope sv ahead av w h; obtain ⟨k, num, name, mt, v, kids⟩ := t; rw [wE] at h; omega
 | succ n ih =>
  intro t scope sv ahead av w hw hn hin hsc hah
  obtain ⟨k, num, name, mt, v, kids⟩ := t
  rw [wE] at hw
  rw [Ex.In] at hin
  obtain ⟨_, hl, hk⟩ := hin
  have hlen := wEs_len kids
  have CN := hid (fun (W : World) (k : Keeps w W) => rIn_any name scope sv W hsc.len (hsc.lies.keep k))
  have CF := hid (fun (W : World) (k : Keeps w W) => rFind_any name ahead av W hah.len (hah.lies.keep k))
  obtain ⟨R, hR⟩ : ∃ R, exprN (scope.map bs) ahead (.mk k num name mt v kids) = R := ⟨_, rfl⟩
  rw [hR]
  rw [exprN] at hR
  simp only [Ex.val_mk]
  have hl' := hl
  obtain ⟨p, cap, rfl, hcap, hx⟩ := hl
  rw [List.length_map] at *
  generalize hL : kids.length = L at *
  have HS := hid hR
  have HL := hid hL
  have HK := hid hk
  have HX := hid hl'
  have HN := hid hsc
  have HA := hid hah
  clear hx hk hL hl' hR hsc hah
  go_enter Tryz.func35, Tryz.ntmps35
  go_wp2_with fail
  have hb0 : Below w.heap.size w (w.alloc (.cells #[.int .i64 k, .int .i64 num, .string name, .bool mt, .slice p L cap] 40 (0, 0))) := (Below.refl _ _).alloc (Nat.le_refl _) _
  have c0 := box_cell w [.int .i64 k, .int .i64 num, .string name, .bool mt, .slice p L cap] 40 0 _ rfl
  have c2 := box_cell w [.int .i64 k, .int .i64 num, .string name, .bool mt, .slice p L cap] 40 2 _ rfl
  have c4 := box_cell w [.int .i64 k, .int .i64 num, .string name, .bool mt, .slice p L cap] 40 4 _ rfl
  generalize w.alloc _ = W1 at *
  go_loopg [7] L (fun gf v wx => ∃ i : Nat, v = .int .i64 (i : Int) ∧ i ≤ L ∧ L ≤ i + gf ∧ Hid (R = (exprNs (scope.map bs) ahead (kids.drop i) && ownE k (bs name) L (scope.map bs) ahead)) ∧ Below W1.heap.size W1 wx)
  case atStart => exact ⟨0, rfl, by omega, by omega, hid (by rw [← HS.out]; rfl), Below.refl _ _⟩
  case round =>
   obtain ⟨i, rfl, hi, hg, HR, hb⟩ := hrel
   have d0 := later hb c0
   have d2 := later hb c2
   have d4 := later hb c4
   have hbw := hb0.trans (hb.mono hb0.size)
   by_cases hlt : i < L
   ·obtain ⟨t', ht⟩ : ∃ t', kids[i]? = some t' := ⟨kids[i]'(by rw [HL.out]; exact hlt), List.getElem?_eq_getElem _⟩
    obtain ⟨b, off, cap', e, _, hx⟩ := Lies.at (HX.out.keep (Keeps.of_below hbw)) (i := i) (by rw [List.length_map, HL.out]; exact hlt)
    injection e with e1 e2 e3
    subst e1
    clear e2 e3
    have hin' : t'.In wr := Ex.In.keep (Keeps.of_below hbw) t' ((Ex.ins_iff w kids).1 HK.out t' (List.mem_of_getElem? ht))
    have hw' := wEs_get kids i t' ht
    have hx' := hx i t'.cells (by rw [List.getElem?_map, ht]; rfl)
    have hr := exprNs_drop (scope.map bs) ahead ht
    have cI := ih t' scope sv ahead av wr (by omega) (by omega) hin' (HN.out.keep (Keeps.of_below hbw)) (HA.out.keep (Keeps.of_below hbw))
    obtain ⟨k', num', name', mt', v', kids'⟩ := t'
    unfold Ex.cells at hx'
    simp only [Ex.val_mk] at cI
    have x0 : wr.cell? ⟨b, off + i * 5, none⟩ = some (.int .i64 k') := hx' 0 _ rfl
    have x1 := hx' 1 _ rfl
    have x2 := hx' 2 _ rfl
    have x3 := hx' 3 _ rfl
    have x4 := hx' 4 _ rfl
    clear hx hx' ht hin'
    obtain ⟨c, hc⟩ : ∃ c, exprN (scope.map bs) ahead (.mk k' num' name' mt' v' kids') = c := ⟨_, rfl⟩
    rw [hc] at cI hr
    have CI := hid cI
    clear cI hc
    cases c with
    | false =>
     have K : R = false := by rw [HR.out, hr]; rfl
     subst K
     clear hr
     go_wp2_with fail
     refine CI.out.mono ?_
     rintro e W2 ⟨rfl, hb2⟩
     go_wp2_with fail
     go_ret
     exact ⟨rfl, hbw.trans (hb2.mono hbw.size)⟩
    | true =>
     have K : Hid (R = (exprNs (scope.map bs) ahead (kids.drop (i + 1)) && ownE k (bs name) L (scope.map bs) ahead)) := hid (by rw [HR.out, hr]; rfl)
     clear hr
     go_wp2_with fail
     refine CI.out.mono ?_
     rintro e W2 ⟨rfl, hb2⟩
     go_wp2_with fail
     go_roundg (gk - 1)
     case measure => omega
     case rel => exact ⟨i + 1, by go_num, by omega, by omega, K, hb.trans (hb2.mono hb.size)⟩
   ·obtain rfl : i = L := by omega
    have hown : ownE k (bs name) i (scope.map bs) ahead = R := by rw [HR.out, ← HL.out, List.drop_length]; simp [exprNs]
    unfold ownE at hown
    clear HR HS
    by_cases h2 : k = 2
    ·subst h2
     rw [if_pos rfl] at hown
     have C1 := hid (CN.out wr (Keeps.of_below hbw))
     clear CN CF HX HK HN HA
     generalize cntN (bs name) (scope.map bs) = cn at *
     go_wp2_with fail
     refine C1.out.mono ?_
     rintro e W2 ⟨rfl, rfl⟩
     go_wp2_with fail
     go_ret
     exact ⟨ret_bool (by rw [← hown]), hbw⟩
    ·rw [if_neg h2] at hown
     by_cases h9 : k = 9
     ·subst h9
      rw [if_pos rfl] at hown
      have C1 := hid (CF.out wr (Keeps.of_below hbw))
      have HA2 := hid (HA.out.keep (Keeps.of_below hbw))
      clear CN CF HX HK HN HA
      rcases findN_parsN (bs name) ahead 0 (by omega) with ⟨e1, e2⟩ | ⟨j, f, e1, e2, e3⟩
      ·rw [e1] at C1
       rw [e2] at hown
       have K : R = false := by rw [← hown]; rfl
       subst K
       clear hown e1 e2
       go_wp2_with fail
       refine C1.out.mono ?_
       rintro e W2 ⟨rfl, rfl⟩
       go_wp2_with fail
       go_region
       go_wp2_with fail
       go_ret
       exact ⟨rfl, hbw.drew⟩
      ·rw [e1, Int.zero_add] at C1
       rw [e3] at hown
       have hjl : j < ahead.length := (List.getElem?_eq_some_iff.1 e2).1
       obtain ⟨b, off, cap', rfl, _, hx⟩ := Lies.at HA2.out.lies (i := j) (by rw [List.length_map]; exact hjl)
       obtain ⟨pp, pc, hpv⟩ := HA2.out.pars f (List.mem_of_getElem? e2)
       have y2 : wr.cell? ⟨b, off + j * 14 + 2, none⟩ = some f.parsV := hx j f.cells (by rw [List.getElem?_map, e2]; rfl) 2 _ (by rfl)
       rw [hpv] at y2
       rw [List.length_map] at *
       generalize f.pars.length = pl at *
       generalize ahead.length = al at *
       have i1 : (j : Int) < (al : Int) := by omega
       have i0 : (0 : Int) ≤ (j : Int) := by omega
       clear hx e1 e2 e3 hpv HA2
       go_wp2_with fail
       refine C1.out.mono ?_
       rintro e W2 ⟨rfl, rfl⟩
       go_wp2_with fail
       go_region
       go_wp2_with fail
       go_ret
       exact ⟨ret_bool (by rw [← hown, Bool.eq_iff_iff]; simp; omega), hbw.drew⟩
     ·rw [if_neg h9] at hown
      subst hown
      go_wp2_with fail
      go_ret
      exact ⟨rfl, hbw⟩
end Go.Proofs.YtemflcojebanlaaGreatDoor.NmC
/- Plain lemmas: a text is a word just if it is lexed to that word. No program is imported. -/
namespace Go.Proofs.YtemflcojebanlaaGreatDoor.TreeP
open LexP

theorem lexG_acc : ∀ (n a : Nat) (l : List UInt8) (acc ts : List Tok), lexG n a l acc = .inr ts → ∃ more, ts = acc ++ more
 | 0, a, l, acc, ts, h => by simp only [lexG, Sum.inr.injEq] at h; exact ⟨[], by simp [h]⟩
 | n + 1, a, l, acc, ts, h => by
  rw [lexG] at h
  split at h
  ·simp only [Sum.inr.injEq] at h; exact ⟨[], by simp [h]⟩
  ·split at h
   ·cases h
   ·obtain ⟨more, e⟩ := lexG_acc n _ _ _ _ h
    exact ⟨_, by rw [e, List.append_assoc]⟩
theorem word_let {l : List UInt8} (h : 0 < wordN l) : ∃ c r, l = c :: r ∧ isLet c = true := by
 cases l with
 | nil => simp [wordN, span] at h
 | cons c r =>
  refine ⟨c, r, rfl, ?_⟩
  unfold wordN at h
  split at h
  ·omega
  ·rename_i hn
   have hd : span isDig (c :: r) = 0 := by omega
   have hc : isDig c = false := by
    cases e : isDig c with
    | false => rfl
    | true => rw [span_cons_t _ _ _ e] at hd; omega
   have hw : inWd c = true := by
    cases e : inWd c with
    | true => rfl
    | false => rw [span_cons_f _ _ _ e] at h; omega
   simpa [inWd, hc] using hw
theorem word_skip {l : List UInt8} (h : 0 < wordN l) : skip l = 0 := by
 obtain ⟨c, r, rfl, hc⟩ := word_let h
 have h1 : isBl c = false := by simp [isLet] at hc; simp [isBl]; omega
 have h2 : c.toNat ≠ 47 := by simp [isLet] at hc; omega
 refine skip_zero _ (span_cons_f _ _ _ h1) ?_
 rw [rem_cons]
 simp [h2]
theorem lex_word {l : List UInt8} (h : wordB l = true) : lexA l = .inr [⟨1, 0, l⟩] := by
 unfold wordB at h
 simp only [Bool.and_eq_true, Bool.not_eq_true', List.isEmpty_eq_false_iff, beq_iff_eq] at h
 obtain ⟨hne, hw⟩ := h
 have hlen : 0 < l.length := List.length_pos_iff.2 hne
 have h0 : 0 < wordN l := by omega
 have hs := word_skip h0
 obtain ⟨m, hm⟩ : ∃ m, l.length = m + 1 := ⟨l.length - 1, by omega⟩
 have hsn : signN l = l.length := by unfold signN; rw [if_pos h0, hw]
 have hsk : signK l = 1 := by unfold signK; rw [if_pos h0]
 unfold lexA
 rw [hs, hm, List.drop_zero, lexG, if_neg hne, if_neg (by omega), hsn, hsk, List.drop_length, List.take_length]
 cases m <;> simp [lexG, skip, skipM]
theorem word_lex {l : List UInt8} {t : Tok} {ts : List Tok} (h : lexA l = .inr (t :: ts)) (hk : t.kind = 1) (ht : t.text = l) : wordB l = true := by
 unfold lexA at h
 cases hl : l.length with
 | zero => rw [hl, lexG] at h; simp at h
 | succ m =>
  rw [hl, lexG] at h
  split at h
  ·simp at h
  ·split at h
   ·cases h
   ·rename_i h1 h2
    obtain ⟨more, e⟩ := lexG_acc _ _ _ _ _ h
    simp only [List.nil_append, List.cons_append, List.cons.injEq] at e
    obtain ⟨e1, _⟩ := e
    subst e1
    simp only at hk ht
    have hlt := congrArg List.length ht
    rw [List.length_take, List.length_drop, hl] at hlt
    have hs0 : skip l = 0 := by omega
    rw [hs0, List.drop_zero] at hk ht hlt
    have hw : 0 < wordN l := by
     unfold signK at hk
     split at hk
     ·assumption
     ·split at hk
      ·omega
      ·split at hk
       ·omega
       ·split at hk <;> omega
    have hsn : signN l = wordN l := by unfold signN; rw [if_pos hw]
    have hle := wordN_le l
    unfold wordB
    rw [hsn] at hlt
    have : wordN l = l.length := by omega
    have hne : l ≠ [] := by intro e; rw [e] at hl; simp at hl
    simp [this, hne]
theorem word_len {l : List UInt8} (h : wordB l = true) : l.length ≤ 30 := by
 unfold wordB at h
 simp only [Bool.and_eq_true, beq_iff_eq] at h
 have := wordN_le l
 omega
end Go.Proofs.YtemflcojebanlaaGreatDoor.TreeP
/- Contracts of tree's small tests: nothing, numbers, operations, names. -/
namespace Go.Proofs.YtemflcojebanlaaGreatDoor.TreeC
open Go Go.RowKit Go.Lib LexP TreeP LexC

/-- the library's tables that the lexer reads -/
def Tabs (w : World) : Prop := Lib.Utf8Tabs 1 2 w
theorem Tabs.below {w w' : World} (h : Tabs w) (hb : Below w.heap.size w w') : Tabs w' := Utf8Tabs_below h hb
theorem toList_data (s : ByteArray) : s.toList = bs s := Lib.toList_data s

set_option maxHeartbeats 400000 in
theorem noneS_any (s : ByteArray) (w : World) : Calls Tryz.prog 120 #[.string s] w fun r w' => r = .returned (.bool (bs s).isEmpty) ∧ w = w' := by
 rw [← toList_data]
 go_enter Tryz.func120, Tryz.ntmps120
 go_wp2
 go_ret
 exact ⟨rfl, rfl⟩
set_option maxHeartbeats 400000 in
theorem noneB_any (b : Bool) (w : World) : Calls Tryz.prog 121 #[.bool b] w fun r w' => r = .returned (.bool (!b)) ∧ w = w' := by
 go_enter Tryz.func121, Tryz.ntmps121
 go_wp2
 go_ret
 exact ⟨by cases b <;> rfl, rfl⟩
set_option maxHeartbeats 400000 in
theorem noneI_any (n : Int) (w : World) : Calls Tryz.prog 126 #[.int .i64 n] w fun r w' => r = .returned (.bool (n == 0)) ∧ w = w' := by
 go_enter Tryz.func126, Tryz.ntmps126
 go_wp2
 go_ret
 exact ⟨rfl, rfl⟩
set_option maxHeartbeats 400000 in
theorem noneN_any (n : Int) (w : World) : Calls Tryz.prog 153 #[.int .i64 n] w fun r w' => r = .returned (.bool (n == 0)) ∧ w = w' := by
 go_enter Tryz.func153, Tryz.ntmps153
 go_wp2
 go_ret
 exact ⟨rfl, rfl⟩
set_option maxHeartbeats 400000 in
theorem either_any (b : Bool) (w : World) : Calls Tryz.prog 122 #[.bool b] w fun r w' => r = .returned (.bool true) ∧ w = w' := by
 go_enter Tryz.func122, Tryz.ntmps122
 go_wp2
 go_ret
 exact ⟨rfl, rfl⟩
set_option maxHeartbeats 400000 in
theorem isLit_any (n : Int) (w : World) : Calls Tryz.prog 125 #[.int .i64 n] w fun r w' => r = .returned (.bool (decide (0 ≤ n) && decide (n ≤ 999999999999999999))) ∧ w = w' := by
 go_enter Tryz.func125, Tryz.ntmps125
 go_wp2
 all_goals go_ret
 all_goals exact ⟨by first | (simp [*]; done) | (simp [*]; omega), rfl⟩
set_option maxHeartbeats 400000 in
theorem isPart_any (n : Int) (w : World) : Calls Tryz.prog 127 #[.int .i64 n] w fun r w' => r = .returned (.bool (decide (0 ≤ n) && decide (n < 30))) ∧ w = w' := by
 go_enter Tryz.func127, Tryz.ntmps127
 go_wp2
 all_goals go_ret
 all_goals exact ⟨by first | (simp [*]; done) | (simp [*]; omega), rfl⟩
set_option maxHeartbeats 400000 in
theorem noStmts_any (p : Option Addr) (n cap : Nat) (w : World) (_hn : n ≤ 1048576) : Calls Tryz.prog 144 #[.slice p n cap] w fun r w' => r = .returned (.bool (n == 0)) ∧ w = w' := by
 go_enter Tryz.func144, Tryz.ntmps144
 go_wp2
 go_ret
 exact ⟨ret_bool (by rw [Bool.eq_iff_iff]; simp), rfl⟩
set_option maxHeartbeats 2000000 in
theorem isOper_any (s : ByteArray) (w : World) : Calls Tryz.prog 129 #[.string s] w fun r w' => r = .returned (.bool (decide (strK 8 (bs s) < 4))) ∧ w = w' := by
 have ho := str_of 8 s
 obtain ⟨S, hS⟩ : ∃ S, strK 8 (bs s) = S := ⟨_, rfl⟩
 rw [hS] at ho ⊢
 clear hS
 cases a3 : (s.toList == [43])
 case true =>
  have H : S = 2 := ho 2 (by rw [beq_iff_eq] at a3; rw [a3]; rfl)
  clear ho; subst H
  go_enter Tryz.func129, Tryz.ntmps129
  go_wp2; go_ret; exact ⟨rfl, rfl⟩
 cases a4 : (s.toList == [45])
 case true =>
  have H : S = 2 := ho 2 (by rw [beq_iff_eq] at a4; rw [a4]; rfl)
  clear ho; subst H
  go_enter Tryz.func129, Tryz.ntmps129
  go_wp2; go_ret; exact ⟨rfl, rfl⟩
 cases a5 : (s.toList == [42])
 case true =>
  have H : S = 3 := ho 3 (by rw [beq_iff_eq] at a5; rw [a5]; rfl)
  clear ho; subst H
  go_enter Tryz.func129, Tryz.ntmps129
  go_wp2; go_ret; exact ⟨rfl, rfl⟩
 cases a6 : (s.toList == [47])
 case true =>
  have H : S = 3 := ho 3 (by rw [beq_iff_eq] at a6; rw [a6]; rfl)
  clear ho; subst H
  go_enter Tryz.func129, Tryz.ntmps129
  go_wp2; go_ret; exact ⟨rfl, rfl⟩
 cases a1 : (s.toList == [60])
 case true =>
  have H : S = 1 := ho 1 (by rw [beq_iff_eq] at a1; rw [a1]; rfl)
  clear ho; subst H
  go_enter Tryz.func129, Tryz.ntmps129
  go_wp2; go_ret; exact ⟨rfl, rfl⟩
 cases a2 : (s.toList == [61, 61])
 case true =>
  have H : S = 1 := ho 1 (by rw [beq_iff_eq] at a2; rw [a2]; rfl)
  clear ho; subst H
  go_enter Tryz.func129, Tryz.ntmps129
  go_wp2; go_ret; exact ⟨rfl, rfl⟩
 case false =>
  have H : S = 4 := ho 4 (by rw [a1, a2, a3, a4, a5, a6]; rfl)
  clear ho; subst H
  go_enter Tryz.func129, Tryz.ntmps129
  go_wp2; go_ret; exact ⟨rfl, rfl⟩

theorem kept_no (l : List UInt8) (h : ∀ k ∈ kept, (l == k) = false) : kept.contains l = false := by
 rw [← Bool.not_eq_true, List.contains_iff_mem]
 intro hc
 have := h l hc
 simp at this
set_option maxHeartbeats 4000000 in
theorem isKept_any (s : ByteArray) (w : World) : Calls Tryz.prog 97 #[.string s] w fun r w' => r = .returned (.bool (kept.contains (bs s))) ∧ w = w' := by
 rw [← toList_data]
 have yes : ∀ k, k ∈ kept → (s.toList == k) = true → kept.contains s.toList = true := fun k hk e => by rw [beq_iff_eq] at e; rw [e, List.contains_iff_mem]; exact hk
 have no := kept_no s.toList
 generalize kept.contains s.toList = R at *
 cases k0 : (s.toList == [102, 110])
 case true =>
  have H : R = true := yes _ (by decide) k0
  clear yes no; subst H
  go_enter Tryz.func97, Tryz.ntmps97
  go_wp2; go_ret; exact ⟨rfl, rfl⟩
 cases k1 : (s.toList == [108, 101, 116])
 case true =>
  have H : R = true := yes _ (by decide) k1
  clear yes no; subst H
  go_enter Tryz.func97, Tryz.ntmps97
  go_wp2; go_ret; exact ⟨rfl, rfl⟩
 cases k2 : (s.toList == [105, 102])
 case true =>
  have H : R = true := yes _ (by decide) k2
  clear yes no; subst H
  go_enter Tryz.func97, Tryz.ntmps97
  go_wp2; go_ret; exact ⟨rfl, rfl⟩
 cases k3 : (s.toList == [101, 108, 115, 101])
 case true =>
  have H : R = true := yes _ (by decide) k3
  clear yes no; subst H
  go_enter Tryz.func97, Tryz.ntmps97
  go_wp2; go_ret; exact ⟨rfl, rfl⟩
 cases k4 : (s.toList == [114, 101, 112, 101, 97, 116])
 case true =>
  have H : R = true := yes _ (by decide) k4
  clear yes no; subst H
  go_enter Tryz.func97, Tryz.ntmps97
  go_wp2; go_ret; exact ⟨rfl, rfl⟩
 cases k5 : (s.toList == [114, 101, 116])
 case true =>
  have H : R = true := yes _ (by decide) k5
  clear yes no; subst H
  go_enter Tryz.func97, Tryz.ntmps97
  go_wp2; go_ret; exact ⟨rfl, rfl⟩
 cases k6 : (s.toList == [98, 111, 120])
 case true =>
  have H : R = true := yes _ (by decide) k6
  clear yes no; subst H
  go_enter Tryz.func97, Tryz.ntmps97
  go_wp2; go_ret; exact ⟨rfl, rfl⟩
 cases k7 : (s.toList == [105, 110, 116])
 case true =>
  have H : R = true := yes _ (by decide) k7
  clear yes no; subst H
  go_enter Tryz.func97, Tryz.ntmps97
  go_wp2; go_ret; exact ⟨rfl, rfl⟩
 cases k8 : (s.toList == [109, 117, 116])
 case true =>
  have H : R = true := yes _ (by decide) k8
  clear yes no; subst H
  go_enter Tryz.func97, Tryz.ntmps97
  go_wp2; go_ret; exact ⟨rfl, rfl⟩
 cases k9 : (s.toList == [119, 104, 101, 114, 101])
 case true =>
  have H : R = true := yes _ (by decide) k9
  clear yes no; subst H
  go_enter Tryz.func97, Tryz.ntmps97
  go_wp2; go_ret; exact ⟨rfl, rfl⟩
 have H : R = false := no (by intro k hk; simp only [kept, List.mem_cons, List.not_mem_nil, or_false] at hk; rcases hk with rfl | rfl | rfl | rfl | rfl | rfl | rfl | rfl | rfl | rfl <;> assumption)
 clear yes no; subst H
 go_enter Tryz.func97, Tryz.ntmps97
 go_wp2; go_ret; exact ⟨rfl, rfl⟩

theorem tok_row (l : List Tok) : ∀ t ts, l = t :: ts → (rowOf l)[0]? = some (.int .i64 (t.kind : Int)) ∧ (rowOf l)[2]? = some (.string ⟨t.text.toArray⟩) := by
 intro t ts h
 subst h
 simp [rowOf, tokCells]
theorem rowOf_len (l : List Tok) : (rowOf l).length = l.length * 3 := by
 induction l with
 | nil => rfl
 | cons t l ih => simp [rowOf, tokCells] at ih ⊢; omega
set_option maxHeartbeats 4000000 in
set_option maxRecDepth 100000 in
theorem isName_any (s : ByteArray) (w : World) (hs : s.size ≤ 1048576) (T : Tabs w) : Calls Tryz.prog 68 #[.string s] w fun r w' => r = .returned (.bool (nameB (bs s))) ∧ Below w.heap.size w w' := by
 obtain ⟨R, hR⟩ : ∃ R, nameB (bs s) = R := ⟨_, rfl⟩
 rw [hR]
 unfold nameB at hR
 have hz := Lib.size_eq s
 by_cases h30 : 30 < s.size
 ·have HR := hid (show R = false by
   rw [← hR]
   cases hw : wordB (bs s) with
   | false => simp
   | true => have := word_len hw; unfold bs at this; omega)
  clear hz hR
  go_enter Tryz.func68, Tryz.ntmps68
  go_wp2_with fail
  go_ret
  exact ⟨ret_bool HR.out.symm, Below.refl _ _⟩
 ·have C1 := hid (lex_any s w (by omega) T)
  have c2 := fun W => isKept_any s W
  obtain ⟨KB, hKB⟩ : ∃ KB, kept.contains (bs s) = KB := ⟨_, rfl⟩
  rw [hKB] at hR
  simp only [hKB] at c2
  have C2 := hid c2
  clear c2 hKB
  have hlw := @lex_word (bs s)
  have hwl := @word_lex (bs s)
  unfold bs at hlw hwl hR
  cases hlex : lexA s.data.toList with
  | inl p =>
   rw [hlex] at C1 hlw
   have HR := hid (show R = false by
    rw [← hR]
    cases hw : wordB s.data.toList with
    | false => simp
    | true => have := hlw hw; cases this)
   clear hz hR hlw hwl hlex
   go_enter Tryz.func68, Tryz.ntmps68
   go_wp2_with fail
   refine C1.out.mono ?_
   rintro e W1 ⟨hb1, b, hbb, rfl, hcell⟩
   have H1 := hid hb1
   clear hb1 hcell
   go_wp2_with fail
   go_ret
   exact ⟨ret_bool HR.out.symm, H1.out⟩
  | inr ts =>
   rw [hlex] at C1 hlw hwl
   cases ts with
   | nil =>
    have HR := hid (show R = false by
     rw [← hR]
     cases hw : wordB s.data.toList with
     | false => simp
     | true => have := hlw hw; simp at this)
    clear hz hR hlw hwl hlex
    go_enter Tryz.func68, Tryz.ntmps68
    go_wp2_with fail
    refine C1.out.mono ?_
    rintro e W1 ⟨hb1, v, rfl, hown⟩
    have H1 := hid hb1
    have hv : ∃ p cap, v = .slice p 0 cap := by
     rcases hown.2 with ⟨rfl, _⟩ | ⟨g, cap, cur, rfl, _⟩
     ·exact ⟨_, _, rfl⟩
     ·exact ⟨_, _, rfl⟩
    obtain ⟨p, cap, rfl⟩ := hv
    clear hb1 hown
    go_wp2_with fail
    go_ret
    exact ⟨ret_bool HR.out.symm, H1.out⟩
   | cons t ts =>
    have hlt : ts.length + 1 ≤ 1000 := by
     have : ∀ (n a : Nat) (l : List UInt8) (acc us : List Tok), lexG n a l acc = .inr us → us.length ≤ acc.length + n := by
      intro n
      induction n with
      | zero => intro a l acc us h; simp only [lexG, Sum.inr.injEq] at h; subst h; omega
      | succ n ih =>
       intro a l acc us h
       rw [lexG] at h
       split at h
       ·simp only [Sum.inr.injEq] at h; subst h; omega
       ·split at h
        ·cases h
        ·have := ih _ _ _ _ h; simp at this; omega
     have h2 := this _ _ _ _ _ hlex
     simp at h2
     omega
    have hrow := tok_row _ t ts rfl
    have hrl := rowOf_len (t :: ts)
    have hl1 : wordB s.data.toList = true → t.kind = 1 ∧ t.text = s.data.toList := fun h => by
     have h2 := hlw h
     simp only [Sum.inr.injEq, List.cons.injEq] at h2
     rw [h2.1]; exact ⟨rfl, rfl⟩
    have hl2 : t.kind = 1 → t.text = s.data.toList → wordB s.data.toList = true := hwl rfl
    go_enter Tryz.func68, Tryz.ntmps68
    have HRW := hid hrow
    have HRL := hid hrl
    have HRR := hid hR
    have HLW := hid hl1
    have HWL := hid hl2
    clear hz hR hlw hwl hlex hrow hrl hl1 hl2
    go_wp2_with fail
    refine C1.out.mono ?_
    rintro e W1 ⟨hb1, v, rfl, hown⟩
    have H1 := hid hb1
    have hv : ∃ g cap, v = .slice (some ⟨g, 0, none⟩) (ts.length + 1) cap ∧ W1.cell? ⟨g, 0, none⟩ = some (.int .i64 (t.kind : Int)) ∧ W1.cell? ⟨g, 2, none⟩ = some (.string ⟨t.text.toArray⟩) := by
     rcases hown.2 with ⟨_, h⟩ | ⟨g, cap, cur, rfl, hg, hh, hcap, rest⟩
     ·simp at h
     ·refine ⟨g, cap, rfl, (hown.cellAt _ (by simp)).trans HRW.out.1, (hown.cellAt _ (by simp; omega)).trans HRW.out.2⟩
    obtain ⟨g, cap, rfl, e0, e2⟩ := hv
    clear hb1 hown
    generalize ts.length = L at *
    have e0' : W1.cell? ⟨g, 0, none⟩ = some (.int .i64 (t.kind : Int)) := e0
    by_cases hk : t.kind = 1
    ·by_cases hx : t.text = s.toList
     rotate_left
     ·have HR := hid (show R = false by
       rw [← HRR.out]
       cases hw : wordB s.data.toList with
       | false => simp
       | true =>
        have h2 := (HLW.out hw).2
        exact absurd (h2.trans (Lib.toList_data s).symm) hx)
      go_wp2_with fail
      go_ret
      exact ⟨ret_bool HR.out.symm, H1.out⟩
     ·have HR := hid (show R = !KB by
       rw [← HRR.out, HWL.out hk (hx.trans (Lib.toList_data s)), Bool.and_true])
      go_wp2_with fail
      refine (C2.out _).mono ?_
      rintro e W2 ⟨rfl, rfl⟩
      go_wp2_with fail
      go_ret
      exact ⟨ret_bool HR.out.symm, H1.out⟩
    ·have HR := hid (show R = false by
      rw [← HRR.out]
      cases hw : wordB s.data.toList with
      | false => simp
      | true => exact absurd (HLW.out hw).1 hk)
     go_wp2_with fail
     go_ret
     exact ⟨ret_bool HR.out.symm, H1.out⟩
end Go.Proofs.YtemflcojebanlaaGreatDoor.TreeC
