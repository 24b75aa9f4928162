/- The contract of lex.Lex: any bytes are the tokens that the plain function lexA gives, or the fault that it tells. -/
import Derived.Test.YtaekojpmhbkfgaaDoorLexMark
namespace Go.Proofs.YtaekojpmhbkfgaaDoor.LexC
open Go Go.RowKit Go.Lib Go.Proofs.YtaekojpmhbkfgaaDoor.LexP

/-- what is owned stays owned behind a call that lets the memory there alone -/
theorem owns_below {W W1 : World} {base : Nat} {e : TypeId} {size : Nat} {v : Value} {n : Nat} {xs : List Value} (h : W.ownsRow base e size v n xs) (hb : Below W.heap.size W W1) : W1.ownsRow base e size v n xs := by
  refine ⟨h.1, ?_⟩
  rcases h.2 with hn | ⟨g, cap, cur, rfl, hg1, hg2, rest⟩
  · exact .inl hn
  · refine .inr ⟨g, cap, cur, rfl, hg1, ?_, rest⟩
    rw [hb.block g (Array.getElem?_eq_some_iff.1 hg2).1]
    exact hg2

def tokCells (t : Tok) : List Value := [.int .i64 (t.kind : Int), .int .i64 (t.at_ : Int), .string ⟨t.text.toArray⟩]
def rowOf (l : List Tok) : List Value := l.flatMap tokCells
theorem rowOf_snoc (l : List Tok) (t : Tok) : rowOf (l ++ [t]) = rowOf l ++ tokCells t := by simp [rowOf]

theorem tok_info : (Tryd.prog.info? 35).map (fun i => (i.zero, i.size, i.bytes)) = some (some (.agg #[.int .i64 0, .int .i64 0, .string ⟨#[]⟩]), 3, 32) := by kernel_rfl

def LexPost (r : Sum Nat (List Tok)) (w : World) (e : Ending) (w' : World) : Prop :=
  Below w.heap.size w w' ∧ match r with
  | .inl p => ∃ b, w.heap.size ≤ b ∧ e = .returned (.tuple #[.slice none 0 0, .iface 42 (.pointer (some ⟨b, 0, none⟩))]) ∧ w'.heap[b]? = some (.cells #[.int .i64 (p : Int), .iface 38 (.int .i64 1)] 44 (0, 0))
  | .inr toks => ∃ v, e = .returned (.tuple #[v, .nilIface]) ∧ w'.ownsRow w.heap.size 35 3 v toks.length (rowOf toks)

theorem lex_much (s : ByteArray) (w : World) (hs : 20000 < s.size) (h2 : s.size ≤ 9223372036854775807) :
    Calls Tryd.prog 7 #[.string s] w fun e w' => e = .returned (.tuple #[.slice none 0 0, .iface 38 (.int .i64 3)]) ∧ w = w' := by
  go_enter Tryd.func7, Tryd.ntmps7
  go_wp2
  go_ret2
  exact ⟨rfl, rfl⟩

set_option maxHeartbeats 4000000 in
set_option maxRecDepth 100000 in
theorem lex_any (s : ByteArray) (w : World) (hs : s.size ≤ 20000) (T : Lib.Utf8Tabs 1 2 w) :
    Calls Tryd.prog 7 #[.string s] w fun e w' => LexPost (lexA s.data.toList) w e w' := by
  obtain ⟨i0, hi, hz0, hz1, hz2⟩ := info_parts tok_info
  have HSZ := hid (Lib.size_eq s)
  have hk := skip_le s.data.toList
  rw [← Lib.size_eq] at hk
  have C0 : Hid _ := hid (blank_any s w (by omega))
  go_enter Tryd.func7, Tryd.ntmps7
  go_wp2_with fail
  refine C0.out.mono ?_
  rintro e W0 ⟨rfl, hb0⟩
  go_wp2_with fail
  go_loopg [4, 5] s.size (fun gf v u wx => ∃ (a : Nat) (acc : List Tok), u = .int .i64 (a : Int) ∧ a ≤ s.size ∧ s.size ≤ a + gf ∧ acc.length ≤ a ∧
    Hid (lexG gf a (s.data.toList.drop a) acc = lexA s.data.toList) ∧ Below w.heap.size w wx ∧ Hid (wx.ownsRow w.heap.size 35 3 v acc.length (rowOf acc)))
  case atStart => exact ⟨skip s.data.toList, [], rfl, hk, by omega, by simp, hid (by rw [lexA, ← Lib.size_eq]), hb0, hid (World.ownsRow_nil _ _ _ _)⟩
  case round =>
    obtain ⟨a, acc, rfl, ha, hg, hacc, HL, hb, HO⟩ := hrel
    by_cases hlt : a < s.size
    · obtain ⟨g', rfl⟩ : ∃ g', gk = g' + 1 := ⟨gk - 1, by omega⟩
      have t1 := tail_list s a
      have hne : s.data.toList.drop a ≠ [] := by
        intro e
        have := congrArg List.length e
        rw [List.length_drop, ← Lib.size_eq] at this
        simp at this
        omega
      have c1 : ∀ W, Below w.heap.size w W → Calls Tryd.prog 13 _ W _ := fun W h => sign_any (s.extract a s.size) W (by simp; omega) (by simp; omega) (Utf8Tabs_below T h)
      rw [t1] at c1
      have hl := signN_le (s.data.toList.drop a)
      rw [List.length_drop, ← Lib.size_eq] at hl
      have H0 := HL.out
      rw [lexG, if_neg hne] at H0
      have htxt : ∀ b, s.extract a (a + b) = ⟨((s.data.toList.drop a).take b).toArray⟩ := fun b => by rw [Lib.extract_eq]; simp
      obtain ⟨z, hz⟩ : ∃ z, signN (s.data.toList.drop a) = z := ⟨_, rfl⟩
      obtain ⟨k, hk⟩ : ∃ k, signK (s.data.toList.drop a) = k := ⟨_, rfl⟩
      rw [hz, hk] at c1
      rw [hz] at hl
      rw [hz, hk, List.drop_drop, List.drop_drop] at H0
      have C1 := hid c1
      clear c1 HL t1 hne
      by_cases hz0' : z = 0
      · rw [if_pos hz0'] at H0
        subst hz0'
        have HR := hid H0
        have HH := hid htxt
        clear H0 htxt hz hk hl
        go_wp2_with fail
        refine (C1.out _ (by assumption)).mono ?_
        rintro e W1 ⟨rfl, hb1⟩
        have B := hb.trans (hb1.mono hb.size)
        clear hb hb1
        go_wp2_with fail
        go_ret2
        rw [← HR.out]
        exact ⟨B.alloc B.size _, W1.heap.size, B.size, rfl, heap_alloc_new _ _⟩
      · rw [if_neg hz0'] at H0
        have t2 := tail_list s (a + z)
        have c2 : ∀ W, Calls Tryd.prog 12 _ W _ := fun W => blank_any (s.extract (a + z) s.size) W (by simp; omega)
        rw [t2] at c2
        have hl2 := skip_le (s.data.toList.drop (a + z))
        rw [List.length_drop, ← Lib.size_eq] at hl2
        obtain ⟨b, hb'⟩ : ∃ b, skip (s.data.toList.drop (a + z)) = b := ⟨_, rfl⟩
        rw [hb'] at c2 H0 hl2
        have C2 := hid c2
        have HR := hid H0
        have HH := hid (htxt z)
        have hzi : ¬ ((z : Int) = 0) := by omega
        clear H0 htxt hz hk c2 hb' t2
        go_wp2_with fail
        refine (C1.out _ (by assumption)).mono ?_
        rintro e W1 ⟨rfl, hb1⟩
        have B := hb.trans (hb1.mono hb.size)
        have HO1 := hid (owns_below HO.out hb1)
        clear hb hb1 HO
        go_wp2_with (at_builtin; refine wpList_append_own _ rfl _ _ 23 rfl w.heap.size 35 i0 _ 3 32 Tryd.underlying23 hi hz0 hz1 hz2 rfl (by decide) _ _ _ rfl (HO1.out.alloc _) ⟨W1.heap.size, 0, none⟩ 1 1 [.int .i64 (k : Int), .int .i64 (a : Int), .string (s.extract a (a + z))] rfl rfl ?c1 ?c2 ?c3 ?c4 ?c5 ?_)
        case c1 =>
          intro j u hj
          match j, hj with
          | 0, hj => simp at hj; subst hj; simp [Addr.add]
          | 1, hj => simp at hj; subst hj; simp [Addr.add]
          | 2, hj => simp at hj; subst hj; simp [Addr.add]
        case c2 => intro u hu; simp at hu; rcases hu with rfl | rfl | rfl <;> rfl
        case c3 => unfold maxLen; omega
        case c4 => omega
        case c5 => have := B.size; simp; omega
        intro v' w2 hown' hgrow _
        have B2 : Below w.heap.size w w2 := (B.alloc B.size _).grown hgrow (by have := B.size; simp; omega) (fun i hi => (HO1.out.lt i hi).1)
        have HO2 : Hid (w2.ownsRow w.heap.size 35 3 v' (acc ++ [Tok.mk k a ((s.data.toList.drop a).take z)]).length (rowOf (acc ++ [Tok.mk k a ((s.data.toList.drop a).take z)]))) := by
          rw [rowOf_snoc, List.length_append]
          unfold tokCells
          rw [← HH.out]
          exact hid hown'
        clear hown' hgrow HO1 B HH
        go_wp2_with fail
        refine (C2.out _).mono ?_
        rintro e W3 ⟨rfl, hb3⟩
        have B3 := B2.trans (hb3.mono B2.size)
        have HO3 := hid (owns_below HO2.out hb3)
        clear HO2 B2 hb3
        go_wp2_with fail
        go_roundg g'
        case measure => omega
        case rel => exact ⟨a + z + b, acc ++ [Tok.mk k a ((s.data.toList.drop a).take z)], by go_num, by omega, by omega, by simp; omega, HR, B3, HO3⟩
    · have H0 := HL.out
      have e0 : s.data.toList.drop a = [] := List.drop_eq_nil_of_le (by rw [← Lib.size_eq]; omega)
      rw [e0] at H0
      have e1 : lexG gk a [] acc = .inr acc := by cases gk <;> simp [lexG]
      rw [e1] at H0
      have HR := hid H0
      clear H0 e0 e1 HL
      go_wp2_with fail
      go_ret2
      rw [← HR.out]
      exact ⟨hb, _, rfl, HO.out⟩
end Go.Proofs.YtaekojpmhbkfgaaDoor.LexC
