/- The contract of the statement LexParts: it returns true, whatever the two texts. -/
import Derived.Test.YtaekojpmhbkfgaaDoorLexTok
import Derived.Test.YtaekojpmhbkfgaaDoorLexRun
import Derived.Laws.AppendOwnNone
namespace Go.Proofs.YtaekojpmhbkfgaaDoor.LexC
open Go Go.RowKit Go.Lib Go.Proofs.YtaekojpmhbkfgaaDoor.LexP Go.Proofs.YtaekojpmhbkfgaaDoor.ErrAs

theorem post_some {r : Sum Nat (List Tok)} {w w' : World} {e : Ending} (h : LexPost r w e w') : ∃ v er, e = .returned (.tuple #[v, er]) ∧ Below w.heap.size w w' := by
  cases r with
  | inl p => obtain ⟨hb, b, _, he, _⟩ := h; exact ⟨_, _, he, hb⟩
  | inr ts => obtain ⟨hb, v, he, _⟩ := h; exact ⟨_, _, he, hb⟩
theorem both_size (a b : ByteArray) : (a ++ ⟨#[10]⟩ ++ b).size = a.size + 1 + b.size := by
  rw [ByteArray.size_append, ByteArray.size_append]; rfl
theorem both_list (a b : ByteArray) : (a ++ ⟨#[10]⟩ ++ b).data.toList = a.data.toList ++ 10 :: b.data.toList := by
  simp [ByteArray.data_append]

set_option maxHeartbeats 4000000 in
set_option maxRecDepth 100000 in
theorem parts_bad (a b : ByteArray) (w : World) (ha : a.size ≤ 300) (hb : b.size ≤ 300) (L : Lists w) (h : (∃ p, lexA a.data.toList = .inl p) ∨ ((∃ ts, lexA a.data.toList = .inr ts) ∧ ∃ p, lexA b.data.toList = .inl p)) :
    Calls Tryd.prog 5 #[.string a, .string b] w fun e w' => e = .returned (.bool true) ∧ Below w.heap.size w w' := by
  have C0 := hid (awake_any w L)
  have HL := hid L
  have C1 := hid (fun W (h : Lists W) => lex_any a W (by omega) h.tabs)
  have C2 := hid (fun W (h : Lists W) => lex_any b W (by omega) h.tabs)
  have C3 := hid (fun W (h : Lists W) => lex_any (a ++ ⟨#[10]⟩ ++ b) W (by rw [both_size]; omega) h.tabs)
  rcases h with ⟨p, hp⟩ | ⟨⟨ts, hts⟩, p, hp⟩
  · rw [hp] at C1
    clear L hp
    go_enter Tryd.func5, Tryd.ntmps5
    go_wp2_with fail
    refine C0.out.mono ?_
    rintro e W1 ⟨rfl, hb1⟩
    go_wp2_with fail
    refine (C1.out _ (HL.out.below hb1)).mono ?_
    rintro e W2 ⟨hb2, b2, hbb, rfl, hcell⟩
    have B2 := hb1.trans (hb2.mono hb1.size)
    clear hb1 hb2 hcell hbb
    go_wp2_with fail
    refine (C2.out _ (HL.out.below B2)).mono ?_
    intro e W3 hpost
    obtain ⟨v3, e3, rfl, hb3⟩ := post_some hpost
    have B3 := B2.trans (hb3.mono B2.size)
    clear B2 hb3 hpost
    go_wp2_with fail
    refine (C3.out _ (HL.out.below B3)).mono ?_
    intro e W4 hpost
    obtain ⟨v4, e4, rfl, hb4⟩ := post_some hpost
    have B4 := B3.trans (hb4.mono B3.size)
    clear B3 hb4 hpost
    go_wp2_with fail
    go_ret
    exact ⟨rfl, B4⟩
  · rw [hp] at C2
    rw [hts] at C1
    clear L hp hts
    go_enter Tryd.func5, Tryd.ntmps5
    go_wp2_with fail
    refine C0.out.mono ?_
    rintro e W1 ⟨rfl, hb1⟩
    go_wp2_with fail
    refine (C1.out _ (HL.out.below hb1)).mono ?_
    rintro e W2 ⟨hb2, v2, rfl, _⟩
    have B2 := hb1.trans (hb2.mono hb1.size)
    clear hb1 hb2
    go_wp2_with fail
    refine (C2.out _ (HL.out.below B2)).mono ?_
    rintro e W3 ⟨hb3, b3, hbb, rfl, hcell⟩
    have B3 := B2.trans (hb3.mono B2.size)
    clear B2 hb3 hcell hbb
    go_wp2_with fail
    refine (C3.out _ (HL.out.below B3)).mono ?_
    intro e W4 hpost
    obtain ⟨v4, e4, rfl, hb4⟩ := post_some hpost
    have B4 := B3.trans (hb4.mono B3.size)
    clear B3 hb4 hpost
    go_wp2_with fail
    go_ret
    exact ⟨rfl, B4⟩

theorem lx_ge' {l : List UInt8} {ts : List Tok} (h : Lx 0 l ts) : ∀ t ∈ ts, t.at_ ≤ l.length := by
  have key : ∀ {p : Nat} {l : List UInt8} {ts : List Tok}, Lx p l ts → ∀ t ∈ ts, t.at_ ≤ p + l.length := by
    intro p l ts h
    induction h with
    | done p => intro t ht; cases ht
    | blank p c r ts hb _ ih => intro t ht; have := ih t ht; simp; omega
    | remark p l ts hr _ ih =>
      intro t ht
      have := ih t ht
      have := span_le inRem l
      rw [List.length_drop] at *
      omega
    | token p c r ts hb hr hz _ ih =>
      intro t ht
      rcases List.mem_cons.1 ht with rfl | ht
      · simp
      · have := ih t ht
        have := (signN_le (c :: r)).1
        rw [List.length_drop] at *
        omega
  intro t ht
  have := key h t ht
  omega
/-- the first tokens moved -/
def mix (k i : Nat) (us : List Tok) : List Tok := shift k (us.take i) ++ us.drop i
theorem mix_zero (k : Nat) (us : List Tok) : mix k 0 us = us := by simp [mix, shift]
theorem mix_all (k : Nat) (us : List Tok) : mix k us.length us = shift k us := by simp [mix]
theorem mix_length (k i : Nat) (us : List Tok) (h : i ≤ us.length) : (mix k i us).length = us.length := by simp [mix, shift]; omega
theorem mix_get (k i : Nat) (us : List Tok) (t : Tok) (h : us[i]? = some t) : (mix k i us)[i]? = some t := by
  have hlt : i < us.length := (List.getElem?_eq_some_iff.1 h).1
  unfold mix
  rw [List.getElem?_append_right (by simp [shift]; omega)]
  simp [shift, Nat.min_eq_left (Nat.le_of_lt hlt), h]
theorem rowOf_set (us : List Tok) (k : Nat) (i : Nat) (t : Tok) (h : us[i]? = some t) : (rowOf (mix k i us)).set (i * 3 + 1) (.int .i64 ((t.at_ + k : Nat) : Int)) = rowOf (mix k (i + 1) us) := by
  have hlt : i < us.length := (List.getElem?_eq_some_iff.1 h).1
  have e1 : us.drop i = t :: us.drop (i + 1) := by rw [List.drop_eq_getElem_cons hlt, (List.getElem?_eq_some_iff.1 h).2]
  have e2 : us.take (i + 1) = us.take i ++ [t] := by rw [List.take_succ_eq_append_getElem hlt, (List.getElem?_eq_some_iff.1 h).2]
  unfold mix
  rw [e1, e2]
  have e3 : rowOf (shift k (us.take i) ++ t :: us.drop (i + 1)) = rowOf (shift k (us.take i)) ++ (tokCells t ++ rowOf (us.drop (i + 1))) := by simp [rowOf]
  have e4 : rowOf (shift k (us.take i ++ [t]) ++ us.drop (i + 1)) = rowOf (shift k (us.take i)) ++ (tokCells ⟨t.kind, t.at_ + k, t.text⟩ ++ rowOf (us.drop (i + 1))) := by simp [rowOf, shift]
  rw [e3, e4, List.set_append_right _ _ (by rw [rowOf_length]; simp [shift]; omega), rowOf_length]
  congr 1
  rw [show i * 3 + 1 - (shift k (us.take i)).length * 3 = 1 by simp [shift]; omega]
  rfl

theorem grown_trans {a b c : World} {row : Option Nat} (h : a.grownBy b row) (k : b.grownBy c row) : a.grownBy c row :=
  ⟨k.os.trans h.os, k.tape.trans h.tape, k.output.trans h.output, Nat.le_trans h.size k.size, fun j hj hne => (k.block j (Nat.lt_of_lt_of_le hj h.size) hne).trans (h.block j hj hne)⟩
theorem rowOf_one (ts : List Tok) : ∀ u ∈ rowOf ts, u.oneCell' = true := by
  intro u hu
  obtain ⟨t, _, ht⟩ := List.mem_flatMap.1 hu
  simp only [tokCells, List.mem_cons, List.not_mem_nil, or_false] at ht
  rcases ht with rfl | rfl | rfl <;> rfl
/-- append(out, x...): out the call's own tokens, x the call's own, too, or nil -/
theorem wpList_append_toks {ops : Array Oper} {rest : List Oper} {o : Oper} {a : Act} {Q : Exit → Act → World → Prop} {W : World} (hw : Region.wanted o (yielded ops a.tmps) = true) (s x : Operand)
    (ho : o.op = .call { callee := .builtin .append, args := #[s, x], argTypes := #[23, 23] })
    (base : Nat) (v : Value) (n : Nat) (xs : List Value) (hs : a.eval s = v) (hown : W.ownsRow base 35 3 v n xs)
    (b2 : Nat) (xv : Value) (ts : List Tok) (hx : a.eval x = xv) (hxo : W.ownsRow b2 35 3 xv ts.length (rowOf ts)) (hn : n + ts.length ≤ 1000000) (hb : base ≤ W.heap.size)
    (h : ∀ v' w', w'.ownsRow base 35 3 v' (n + ts.length) (xs ++ rowOf ts) → W.grownBy w' v.ownBlock → wpList Tryd.prog ops Q rest (a.put o.dst v') w') : wpList Tryd.prog ops Q (o :: rest) a W := by
  obtain ⟨i0, hi, hz0, hz1, hz2⟩ := info_parts tok_info
  rcases hxo.2 with ⟨rfl, h0⟩ | ⟨g, cap, cur, rfl, hg, hh, hrest⟩
  · have e : ts = [] := List.eq_nil_of_length_eq_zero h0
    subst e
    refine wpList_step fun K hK => ?_
    rw [if_pos hw]
    have hrun := run_append_owned_none (P := Tryd.prog) (w := W) base 23 o.type 35 i0 3 Tryd.underlying23 hi v n xs hown
    unfold Oper.wp
    simp [execOp, ho, resolve, invoke, builtin, hs, hx, hrun, Result.andThen]
    exact hK _ _ (h v W (by simpa [rowOf] using hown) (World.grownBy.refl W _))
  · refine wpList_step fun K hK => ?_
    rw [if_pos hw]
    refine wp_append_own W s x _ ho base 35 i0 _ 3 32 Tryd.underlying23 hi hz0 hz1 hz2 rfl (by decide) v n xs hs hown ⟨g, 0, none⟩ ts.length cap (rowOf ts) hx (rowOf_length ts) (hxo.cells rfl) (rowOf_one ts) (by unfold maxLen; omega) (by omega) hb ?_
    intro v' w' h1 h2 _
    exact hK _ _ (h v' w' h1 h2)

set_option maxHeartbeats 4000000 in
set_option maxRecDepth 100000 in
theorem parts_good (a b : ByteArray) (w : World) (ha : a.size ≤ 300) (hb : b.size ≤ 300) (L : Lists w) (ts us : List Tok) (hts : lexA a.data.toList = .inr ts) (hus : lexA b.data.toList = .inr us) :
    Calls Tryd.prog 5 #[.string a, .string b] w fun e w' => e = .returned (.bool true) ∧ Below w.heap.size w w' := by
  have C0 := hid (awake_any w L)
  have HL := hid L
  have C1 := hid (fun W (h : Lists W) => lex_any a W (by omega) h.tabs)
  have C2 := hid (fun W (h : Lists W) => lex_any b W (by omega) h.tabs)
  have C3 := hid (fun W (h : Lists W) => lex_any (a ++ ⟨#[10]⟩ ++ b) W (by rw [both_size]; omega) h.tabs)
  have hz : lexA (a ++ ⟨#[10]⟩ ++ b).data.toList = .inr (ts ++ shift (a.size + 1) us) := by rw [both_list, Lib.size_eq]; exact lexA_parts hts hus
  have hl1 : ts.length ≤ 300 := by have := lexA_length hts; rw [← Lib.size_eq] at this; omega
  have hl2 : us.length ≤ 300 := by have := lexA_length hus; rw [← Lib.size_eq] at this; omega
  have HA := hid (fun (t : Tok) (h : t ∈ us) => (by have := (lx_ge' (lx_of_lexA hus) t h); rw [← Lib.size_eq] at this; omega : t.at_ ≤ 300))
  rw [hts] at C1
  rw [hus] at C2
  rw [hz] at C3
  clear L hts hus hz
  go_enter Tryd.func5, Tryd.ntmps5
  go_wp2_with fail
  refine C0.out.mono ?_
  rintro e W1 ⟨rfl, hb1⟩
  go_wp2_with fail
  refine (C1.out _ (HL.out.below hb1)).mono ?_
  rintro e W2 ⟨hb2, x, rfl, hx⟩
  have B2 := hb1.trans (hb2.mono hb1.size)
  have HX := hid hx
  clear hb2 hx
  go_wp2_with fail
  refine (C2.out _ (HL.out.below B2)).mono ?_
  rintro e W3 ⟨hb3, y, rfl, hy⟩
  have B3 := B2.trans (hb3.mono B2.size)
  have HX3 := hid (owns_below HX.out hb3)
  rcases hy.2 with ⟨rfl, h0⟩ | ⟨g2, cap2, cur2, rfl, hg2, hh2, hrest⟩
  · have e0 : us = [] := List.eq_nil_of_length_eq_zero h0
    have HY := hid hy
    clear hy
    go_wp2_with fail
    refine (C3.out _ (HL.out.below B3)).mono ?_
    rintro e W4 ⟨hb4, z, rfl, hz⟩
    have Br := B3.trans (hb4.mono B3.size)
    have HXr := hid (owns_below HX3.out hb4)
    have HYr : Hid (W4.ownsRow W2.heap.size 35 3 (.slice none 0 0) (shift (a.size + 1) us).length (rowOf (shift (a.size + 1) us))) := hid (by rw [e0]; exact World.ownsRow_nil _ _ _ _)
    have HZr := hid hz
    have HS0 : w.heap.size ≤ W4.heap.size := Br.size
    clear hb1 hb3 hb4 hz C0 C1 C2 C3 HX HX3 HY e0 B2 B3
    go_wp2_with fail
    refine wp_loop_rounds 1 ?_
    rw [rounds_succ]
    have S5 : Below W4.heap.size W4 (W4.alloc (.cells #[] 35)) := (Below.refl _ W4).alloc (Nat.le_refl _) _
    have HX5 := hid (owns_below HXr.out S5)
    have HY5 := hid (owns_below HYr.out S5)
    have HZ5 := hid (owns_below HZr.out S5)
    have B5 := hid (Br.trans (S5.mono Br.size))
    have HO5 : Hid ((W4.alloc (.cells #[] 35)).ownsRow W4.heap.size 35 3 (.slice (some ⟨W4.heap.size, 0, none⟩) 0 0) 0 []) := hid (World.ownsRow_made W4 #[] 0 (Nat.le_refl _) (by decide) (by rfl))
    have TX := hid (fun k h => (HXr.out.lt k h).2)
    have TY := hid (fun k h => (HYr.out.lt k h).2)
    have TZ := hid (fun k h => (HZr.out.lt k h).2)
    have CS := hid (fun W x y (hx : Reads W x (ts ++ shift (a.size + 1) us)) (hy : Reads W y (ts ++ shift (a.size + 1) us)) => same_eq W x y _ hx hy (by simp [shift]; omega))
    clear S5 HXr HYr HZr Br
    go_wp2_with (first | (at_builtin; refine wpList_append_toks rfl (.tmp 76) (.tmp 77) rfl W4.heap.size _ 0 [] rfl HO5.out _ _ ts rfl HX5.out ?cN1 ?cB1 ?_))
    case cN1 => omega
    case cB1 => simp
    intro v6 W6 hown6 hgrow6
    have H6 := hid hown6
    have HY6 := hid (HY5.out.kept hgrow6 (by
      cases hv : Value.ownBlock (.slice none 0 0) with
      | none => exact .inl rfl
      | some k => right; have := TY.out k hv; simp [Value.ownBlock]; omega))
    have HZ6 := hid (HZ5.out.kept hgrow6 (by
      cases hv : Value.ownBlock z with
      | none => exact .inl rfl
      | some k => right; have := TZ.out k hv; simp [Value.ownBlock]; omega))
    have B6 := hid (B5.out.grown hgrow6 (by simp; have := B5.out.size; simp at this; omega) (by intro k hk; simp [Value.ownBlock] at hk; subst hk; have := B5.out.size; simp at this; omega))
    have S6 : W4.heap.size < W6.heap.size := by have := hgrow6.size; simp at this; omega
    clear hown6 hgrow6 HO5 HX5 HY5 HZ5 B5 TX
    go_wp2_with (first | (at_builtin; refine wpList_append_toks rfl (.tmp 78) (.tmp 79) rfl W4.heap.size _ _ _ rfl H6.out _ _ (shift (a.size + 1) us) rfl HY6.out ?cN2 ?cB2 ?_))
    case cN2 => simp [shift]; omega
    case cB2 => omega
    intro v7 W7 hown7 hgrow7
    have R7 : Hid (Reads W7 v7 (ts ++ shift (a.size + 1) us)) := by
      refine hid (reads_of (base := W4.heap.size) ?_)
      have e1 : ts.length + (shift (a.size + 1) us).length = (ts ++ shift (a.size + 1) us).length := by simp
      have e2 : rowOf ts ++ rowOf (shift (a.size + 1) us) = rowOf (ts ++ shift (a.size + 1) us) := by simp [rowOf]
      rw [← e1, ← e2]
      exact hown7
    have HZ7 := hid (reads_of (HZ6.out.kept hgrow7 (by
      cases hv : Value.ownBlock z with
      | none => exact .inl rfl
      | some k =>
        right
        intro e
        have h1 := TZ.out k hv
        have h2 := (H6.out.lt k e.symm).1
        omega)))
    have B7 := hid (B6.out.grown hgrow7 (by have := B6.out.size; omega) (fun k hk => by have h2 := (H6.out.lt k hk).1; have := HS0; omega))
    clear hown7 hgrow7 H6 HY6 HZ6 B6 TY TZ
    go_wp2_with fail
    refine (CS.out _ _ _ HZ7.out R7.out).mono ?_
    rintro e W8 ⟨rfl, q, rfl⟩
    go_wp2_with fail
    go_ret
    exact ⟨rfl, below_drewN' B7.out _⟩
  · have HY := hid hy
    have hgl : g2 < W3.heap.size := (Array.getElem?_eq_some_iff.1 hh2).1
    clear hy hh2 hrest
    go_wp2_with fail
    refine (C3.out _ (HL.out.below B3)).mono ?_
    rintro e W4 ⟨hb4, z, rfl, hz⟩
    have B4 := B3.trans (hb4.mono B3.size)
    have HX4 := hid (owns_below HX3.out hb4)
    have HY4 := hid (owns_below HY.out hb4)
    have HZ4 := hid hz
    have s12 := hb1.size
    have s23 := hb3.size
    have s34 := hb4.size
    have HXB : ∀ k, Value.ownBlock x = some k → k < W2.heap.size := fun k hk => (HX.out.lt k hk).2
    clear hb1 hb3 hb4 hz C0 C1 C2 C3 HX HX3 HY
    have hsz : w.heap.size ≤ g2 := by have := B2.size; omega
    go_wp2_with fail
    go_loopg [11] us.length (fun gf v wx => ∃ i : Nat, v = .int .i64 (i : Int) ∧ i ≤ us.length ∧ us.length ≤ i + gf ∧
      Hid (wx.ownsRow W2.heap.size 35 3 (.slice (some ⟨g2, 0, none⟩) us.length cap2) us.length (rowOf (mix (a.size + 1) i us))) ∧ Hid (W4.grownBy wx (some g2)))
    case atStart => exact ⟨0, rfl, by omega, by omega, hid (by rw [mix_zero]; exact HY4.out), hid (World.grownBy.refl _ _)⟩
    case round =>
      obtain ⟨i, rfl, hi, hg, HO, HG⟩ := hrel
      by_cases hlt : i < us.length
      · obtain ⟨t, ht⟩ : ∃ t, us[i]? = some t := ⟨us[i]'hlt, List.getElem?_eq_getElem _⟩
        have hat := HA.out t (List.mem_of_getElem? ht)
        obtain ⟨_, r1, _⟩ := rowOf_get _ i t (mix_get (a.size + 1) i us t ht)
        have c1 : wr.cell? ⟨g2, i * 3 + 1, none⟩ = some (.int .i64 (t.at_ : Int)) := (HO.out.cellAt _ (by omega)).trans r1
        have f1 : wr.frozen? ⟨g2, i * 3 + 1, none⟩ = false := HO.out.frozenAt _
        obtain ⟨st1, st2⟩ := HO.out.stored (i * 3 + 1) (.int .i64 ((t.at_ + (a.size + 1) : Nat) : Int))
        rw [rowOf_set us (a.size + 1) i t ht] at st1
        have ev : ((t.at_ + (a.size + 1) : Nat) : Int) = (t.at_ : Int) + (a.size : Int) + 1 := by omega
        rw [ev] at st1 st2
        have K1 := hid st1
        have K2 := hid (grown_trans HG.out st2)
        clear st1 st2 ev ht r1 HO HG HA
        go_wp2_with fail
        go_roundg (gk - 1)
        case measure => omega
        case rel => exact ⟨i + 1, by go_num, by omega, by omega, K1, K2⟩
      · obtain rfl : i = us.length := by omega
        have HYr : Hid (wr.ownsRow W2.heap.size 35 3 (.slice (some ⟨g2, 0, none⟩) us.length cap2) (shift (a.size + 1) us).length (rowOf (shift (a.size + 1) us))) := hid (by
          have := HO.out
          rw [mix_all] at this
          simpa [shift] using this)
        have HXr := hid (HX4.out.kept HG.out (by
          cases hv : Value.ownBlock x with
          | none => exact .inl rfl
          | some k => right; have := (HXB k hv); intro e; cases e; omega))
        have HZr := hid (HZ4.out.kept HG.out (by
          cases hv : Value.ownBlock z with
          | none => exact .inl rfl
          | some k => right; have := (HZ4.out.lt k hv).1; intro e; cases e; omega))
        have Br := B4.grown HG.out B4.size (fun k hk => by cases hk; omega)
        have HS0 : w.heap.size ≤ wr.heap.size := Br.size
        clear HO HG HX4 HY4 HZ4 B4 B3 B2
        have S5 : Below wr.heap.size wr (wr.alloc (.cells #[] 35)) := (Below.refl _ wr).alloc (Nat.le_refl _) _
        have HX5 := hid (owns_below HXr.out S5)
        have HY5 := hid (owns_below HYr.out S5)
        have HZ5 := hid (owns_below HZr.out S5)
        have B5 := hid (Br.trans (S5.mono Br.size))
        have HO5 : Hid ((wr.alloc (.cells #[] 35)).ownsRow wr.heap.size 35 3 (.slice (some ⟨wr.heap.size, 0, none⟩) 0 0) 0 []) := hid (World.ownsRow_made wr #[] 0 (Nat.le_refl _) (by decide) (by rfl))
        have TX := hid (fun k h => (HXr.out.lt k h).2)
        have TY := hid (fun k h => (HYr.out.lt k h).2)
        have TZ := hid (fun k h => (HZr.out.lt k h).2)
        have CS := hid (fun W x y (hx : Reads W x (ts ++ shift (a.size + 1) us)) (hy : Reads W y (ts ++ shift (a.size + 1) us)) => same_eq W x y _ hx hy (by simp [shift]; omega))
        clear S5 HXr HYr HZr Br
        go_wp2_with (first | (at_builtin; refine wpList_append_toks rfl (.tmp 76) (.tmp 77) rfl wr.heap.size _ 0 [] rfl HO5.out _ _ ts rfl HX5.out ?cN1 ?cB1 ?_))
        case cN1 => omega
        case cB1 => simp
        intro v6 W6 hown6 hgrow6
        have H6 := hid hown6
        have HY6 := hid (HY5.out.kept hgrow6 (by
          cases hv : Value.ownBlock (.slice (some ⟨g2, 0, none⟩) us.length cap2) with
          | none => exact .inl rfl
          | some k => right; have := TY.out k hv; simp [Value.ownBlock]; omega))
        have HZ6 := hid (HZ5.out.kept hgrow6 (by
          cases hv : Value.ownBlock z with
          | none => exact .inl rfl
          | some k => right; have := TZ.out k hv; simp [Value.ownBlock]; omega))
        have B6 := hid (B5.out.grown hgrow6 (by simp; have := B5.out.size; simp at this; omega) (by intro k hk; simp [Value.ownBlock] at hk; subst hk; have := B5.out.size; simp at this; omega))
        have S6 : wr.heap.size < W6.heap.size := by have := hgrow6.size; simp at this; omega
        clear hown6 hgrow6 HO5 HX5 HY5 HZ5 B5 TX
        go_wp2_with (first | (at_builtin; refine wpList_append_toks rfl (.tmp 78) (.tmp 79) rfl wr.heap.size _ _ _ rfl H6.out _ _ (shift (a.size + 1) us) rfl HY6.out ?cN2 ?cB2 ?_))
        case cN2 => simp [shift]; omega
        case cB2 => omega
        intro v7 W7 hown7 hgrow7
        have R7 : Hid (Reads W7 v7 (ts ++ shift (a.size + 1) us)) := by
          refine hid (reads_of (base := wr.heap.size) ?_)
          have e1 : ts.length + (shift (a.size + 1) us).length = (ts ++ shift (a.size + 1) us).length := by simp
          have e2 : rowOf ts ++ rowOf (shift (a.size + 1) us) = rowOf (ts ++ shift (a.size + 1) us) := by simp [rowOf]
          rw [← e1, ← e2]
          exact hown7
        have HZ7 := hid (reads_of (HZ6.out.kept hgrow7 (by
          cases hv : Value.ownBlock z with
          | none => exact .inl rfl
          | some k =>
            right
            intro e
            have h1 := TZ.out k hv
            have h2 := (H6.out.lt k e.symm).1
            omega)))
        have B7 := hid (B6.out.grown hgrow7 (by have := B6.out.size; omega) (fun k hk => by have h2 := (H6.out.lt k hk).1; have := HS0; omega))
        clear hown7 hgrow7 H6 HY6 HZ6 B6 TY TZ
        go_wp2_with fail
        refine (CS.out _ _ _ HZ7.out R7.out).mono ?_
        rintro e W8 ⟨rfl, q, rfl⟩
        go_wp2_with fail
        go_ret
        exact ⟨rfl, below_drewN' B7.out _⟩
set_option maxHeartbeats 1000000 in
set_option maxRecDepth 100000 in
theorem parts_any (a b : ByteArray) (w : World) (ha' : a.size ≤ 9223372036854775807) (hb' : b.size ≤ 9223372036854775807) (L : Lists w) :
    Calls Tryd.prog 5 #[.string a, .string b] w fun e w' => e = .returned (.bool true) ∧ Below w.heap.size w w' := by
  have C0 := hid (awake_any w L)
  by_cases h1 : 300 < a.size
  · go_enter Tryd.func5, Tryd.ntmps5
    go_wp2_with fail
    refine C0.out.mono ?_
    rintro e W1 ⟨rfl, hb1⟩
    go_wp2_with fail
    go_ret
    exact ⟨rfl, hb1⟩
  · by_cases h2 : 300 < b.size
    · go_enter Tryd.func5, Tryd.ntmps5
      go_wp2_with fail
      refine C0.out.mono ?_
      rintro e W1 ⟨rfl, hb1⟩
      go_wp2_with fail
      go_ret
      exact ⟨rfl, hb1⟩
    · cases hp : lexA a.data.toList with
      | inl p => exact parts_bad a b w (by omega) (by omega) L (.inl ⟨p, hp⟩)
      | inr ts =>
        cases hq : lexA b.data.toList with
        | inl q => exact parts_bad a b w (by omega) (by omega) L (.inr ⟨⟨ts, hp⟩, q, hq⟩)
        | inr us => exact parts_good a b w (by omega) (by omega) L ts us hp hq
end Go.Proofs.YtaekojpmhbkfgaaDoor.LexC
