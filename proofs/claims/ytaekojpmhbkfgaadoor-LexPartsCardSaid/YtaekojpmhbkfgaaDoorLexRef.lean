/- Contracts of the document's answer of layer 1 (lienbookref01). -/
import Derived.Test.YtaekojpmhbkfgaaDoorLexLex
import Derived.Test.YtaekojpmhbkfgaaDoorLexRefP
namespace Go.Proofs.YtaekojpmhbkfgaaDoor.LexC
open Go Go.RowKit Go.Lib Go.Proofs.YtaekojpmhbkfgaaDoor.LexP

set_option maxHeartbeats 400000 in
theorem rletter_any (v : Nat) (w : World) : Calls Tryd.prog 24 #[.int .u8 (v : Int)] w fun e w' => e = .returned (.bool (rLet v)) ∧ w = w' := by
  go_enter Tryd.func24, Tryd.ntmps24
  go_wp2
  all_goals go_ret
  all_goals refine ⟨ret_bool ?_, rfl⟩
  all_goals (rw [Bool.eq_iff_iff]; simp [rLet]; omega)
set_option maxHeartbeats 400000 in
theorem rdigit_any (v : Nat) (w : World) : Calls Tryd.prog 26 #[.int .u8 (v : Int)] w fun e w' => e = .returned (.bool (rDig v)) ∧ w = w' := by
  go_enter Tryd.func26, Tryd.ntmps26
  go_wp2
  all_goals go_ret
  all_goals refine ⟨ret_bool ?_, rfl⟩
  all_goals (rw [Bool.eq_iff_iff]; simp [rDig]; omega)

theorem at_get (s : ByteArray) (i : Nat) (h : i < s.size) : ∃ c : UInt8, s[i]'h = c ∧ s.data.toList[i]? = some c := by
  refine ⟨_, rfl, ?_⟩
  rw [get_some s i h]
  congr 1
  simp [ByteArray.get!, getElem!_pos, h]
  rfl

set_option maxHeartbeats 2000000 in
theorem rword_any (s : ByteArray) (a : Nat) (w : World) (hs : s.size ≤ 4611686018427387904) (ha : a ≤ s.size) :
    Calls Tryd.prog 25 #[.string s, .int .i64 (a : Int)] w fun e w' => e = .returned (.int .i64 ((a + wordN (s.data.toList.drop a) : Nat) : Int)) ∧ w = w' := by
  have hz := Lib.size_eq s
  have hd : (s.data.toList.drop a).length = s.size - a := by rw [List.length_drop, ← hz]
  have HZ := hid hz
  have HD := hid hd
  clear hz hd
  go_enter Tryd.func25, Tryd.ntmps25
  go_wp2
  go_loopg [5] (s.size - a) (fun gf v wx => ∃ n : Nat, v = .int .i64 ((a + n : Nat) : Int) ∧ a + n ≤ s.size ∧ s.size ≤ a + n + gf ∧ Hid (WRel (s.data.toList.drop a) n) ∧ wx = w)
  case atStart => exact ⟨0, by go_num, by omega, by omega, hid (wrel_zero _), rfl⟩
  case round =>
    obtain ⟨n, rfl, hn, hg, HR, rfl⟩ := hrel
    have ec : ((a + n : Nat) : Int) = (a : Int) + (n : Int) := by omega
    by_cases hlt : a + n < s.size
    · obtain ⟨c, hc, hc2⟩ := at_get s (a + n) hlt
      have hc3 : (s.data.toList.drop a)[n]? = some c := by rw [List.getElem?_drop]; exact hc2
      have HC := hid hc3
      have c1 : ∀ W, Calls Tryd.prog 24 _ W _ := fun W => rletter_any c.toNat W
      have c2 : ∀ W, Calls Tryd.prog 26 _ W _ := fun W => rdigit_any c.toNat W
      clear hc2 hc3
      cases h1 : rLet c.toNat with
      | true =>
        rw [h1] at c1
        have C1 := hid c1
        have K := hid (wrel_step HR.out HC.out (.inl h1))
        clear c1 c2 h1 ec
        go_wp2_with (go_at_call 24; refine (C1.out _).mono ?_; rintro e w' ⟨rfl, rfl⟩)
        go_roundg (gk - 1)
        case measure => omega
        case rel => exact ⟨n + 1, by go_num, by omega, by omega, K, rfl⟩
      | false =>
        rw [h1] at c1
        have C1 := hid c1
        by_cases hn0 : 0 < n
        · cases h2 : rDig c.toNat with
          | true =>
            rw [h2] at c2
            have C2 := hid c2
            have K := hid (wrel_step HR.out HC.out (.inr ⟨hn0, h2⟩))
            clear c1 c2 h1 h2 ec
            go_wp2_with (first | (go_at_call 24; refine (C1.out _).mono ?_; rintro e w' ⟨rfl, rfl⟩) | (go_at_call 26; refine (C2.out _).mono ?_; rintro e w' ⟨rfl, rfl⟩))
            go_roundg (gk - 1)
            case measure => omega
            case rel => exact ⟨n + 1, by go_num, by omega, by omega, K, rfl⟩
          | false =>
            rw [h2] at c2
            have C2 := hid c2
            have K := hid (wrel_stop HR.out HC.out h1 (by simp [h2]))
            clear c1 c2 h1 h2 ec
            by_cases h30 : 30 < n
            · go_wp2_with (first | (go_at_call 24; refine (C1.out _).mono ?_; rintro e w' ⟨rfl, rfl⟩) | (go_at_call 26; refine (C2.out _).mono ?_; rintro e w' ⟨rfl, rfl⟩))
              go_ret
              exact ⟨ret_int (by rw [K.out, if_pos h30]; rfl), rfl⟩
            · go_wp2_with (first | (go_at_call 24; refine (C1.out _).mono ?_; rintro e w' ⟨rfl, rfl⟩) | (go_at_call 26; refine (C2.out _).mono ?_; rintro e w' ⟨rfl, rfl⟩))
              go_ret
              exact ⟨ret_int (by rw [K.out, if_neg h30]; omega), rfl⟩
        · obtain rfl : n = 0 := by omega
          have K := hid (wrel_stop HR.out HC.out h1 (by simp))
          have hlt' : a < s.size := by omega
          have hc' : s[a]'hlt' = c := by simpa using hc
          clear c1 c2 h1 ec hc hlt hn hg
          go_wp2_with (go_at_call 24; refine (C1.out _).mono ?_; rintro e w' ⟨rfl, rfl⟩)
          go_ret
          exact ⟨ret_int (by rw [K.out]; rfl), rfl⟩
    · have K := hid (wrel_end HR.out (by rw [HD.out]; omega))
      by_cases h30 : 30 < n
      · clear ec
        go_wp2_with fail
        go_ret
        exact ⟨ret_int (by rw [K.out, if_pos h30]; rfl), rfl⟩
      · clear ec
        go_wp2_with fail
        go_ret
        exact ⟨ret_int (by rw [K.out, if_neg h30]), rfl⟩

theorem ext_two (s : ByteArray) (a : Nat) (c0 c1 : UInt8) (h0 : s.data.toList[a]? = some c0) (h1 : s.data.toList[a + 1]? = some c1) : (s.extract a (a + 2)).toList = [c0, c1] := by
  rw [Lib.extract_toList, show a + 2 - a = 2 by omega, drop_cons_get h0, drop_cons_get h1]
  rfl
/-- how many bytes a mark of one byte has -/
def m1 (c : UInt8) : Nat := if marks.contains c = true then 1 else 0
set_option maxHeartbeats 2000000 in
set_option maxRecDepth 100000 in
theorem rmark_loop (s : ByteArray) (a : Nat) (w : World) (hs : s.size ≤ 4611686018427387904) (ha : a < s.size) (c : UInt8) (hc : s[a]'ha = c)
    (hno : ¬ a + 1 < s.size ∨ (a + 1 < s.size ∧ ((s.extract a (a + 2)).toList == [45, 62]) = false ∧ ((s.extract a (a + 2)).toList == [61, 61]) = false)) :
    Calls Tryd.prog 27 #[.string s, .int .i64 (a : Int)] w fun e w' => e = .returned (.int .i64 ((m1 c : Nat) : Int)) ∧ ∃ n, w' = w.drewN n := by
  rcases hno with h1 | ⟨h1, e1, e2⟩
  all_goals
    go_enter Tryd.func27, Tryd.ntmps27
    go_wp2
    go_loopg [6] 17 (fun gf v wx => ∃ i : Nat, v = .int .i64 (i : Int) ∧ i ≤ 17 ∧ 17 ≤ i + gf ∧ Hid (marks.contains c = (marks.drop i).contains c) ∧ Hid (∃ n, wx = w.drewN n))
    case atStart => exact ⟨0, rfl, by omega, by omega, hid (by simp), hid ⟨0, rfl⟩⟩
    case round =>
      obtain ⟨i, rfl, hi, hg, HM, HW⟩ := hrel
      by_cases hlt : i < 17
      · obtain ⟨y, hy, hy2⟩ := at_get ⟨#[40, 41, 123, 125, 91, 93, 44, 59, 58, 46, 38, 42, 61, 43, 45, 47, 60]⟩ i hlt
        have hy3 : marks[i]? = some y := hy2
        have H0 := HM.out
        rw [drop_cons_get hy3, List.contains_cons] at H0
        have hlt2 : (i : Int) < 17 := by omega
        have hi0 : (0 : Int) ≤ (i : Int) := by omega
        have ha2 : (a : Int) < (s.size : Int) := by omega
        obtain ⟨q, hq⟩ := HW.out
        subst hq
        by_cases hyc : y = c
        · have K : Hid (m1 c = 1) := hid (by unfold m1; rw [H0, hyc]; simp)
          have e : ((y.toNat : Int) == (c.toNat : Int)) = true := by rw [hyc]; simp
          clear hyc H0 hy3 hy2 HM HW
          go_wp2_with fail
          go_quiet (fail)
          go_wp2_with fail
          go_ret
          exact ⟨ret_int (by rw [K.out]; rfl), q + nq, by first | rfl | exact World.drewN_drewN _ _ _⟩
        · have K : Hid (marks.contains c = (marks.drop (i + 1)).contains c) := hid (by
            rw [H0, show (c == y) = false by simpa using fun h => hyc h.symm, Bool.false_or])
          have e : ((y.toNat : Int) == (c.toNat : Int)) = false := by
            simp only [beq_eq_false_iff_ne, ne_eq]
            intro h
            exact hyc (UInt8.toNat_inj.1 (by omega))
          clear hyc H0 hy3 hy2 HM HW
          go_wp2_with fail
          go_quiet (fail)
          go_wp2_with fail
          go_roundg (gk - 1)
          case measure => omega
          case rel => exact ⟨i + 1, by go_num, by omega, by omega, K, hid ⟨_, rfl⟩⟩
      · obtain ⟨q, hq⟩ := HW.out
        subst hq
        have K : Hid (m1 c = 0) := hid (by
          unfold m1
          rw [HM.out, List.drop_eq_nil_of_le (by show 17 ≤ i; omega)]; rfl)
        have hlt2 : ¬ (i : Int) < 17 := by omega
        clear HM HW
        go_wp2_with fail
        go_ret
        exact ⟨ret_int (by rw [K.out]; rfl), _, rfl⟩

set_option maxHeartbeats 2000000 in
set_option maxRecDepth 100000 in
theorem rmark_two (s : ByteArray) (a : Nat) (w : World) (hs : s.size ≤ 4611686018427387904) (ha : a + 1 < s.size)
    (h : ((s.extract a (a + 2)).toList == [45, 62]) = true ∨ (((s.extract a (a + 2)).toList == [45, 62]) = false ∧ ((s.extract a (a + 2)).toList == [61, 61]) = true)) :
    Calls Tryd.prog 27 #[.string s, .int .i64 (a : Int)] w fun e w' => e = .returned (.int .i64 2) ∧ ∃ n, w' = w.drewN n := by
  rcases h with e1 | ⟨e1, e2⟩
  all_goals
    go_enter Tryd.func27, Tryd.ntmps27
    go_wp2
    go_ret
    exact ⟨rfl, 0, rfl⟩
theorem rmark_any (s : ByteArray) (a : Nat) (w : World) (hs : s.size ≤ 4611686018427387904) (ha : a < s.size) :
    Calls Tryd.prog 27 #[.string s, .int .i64 (a : Int)] w fun e w' => e = .returned (.int .i64 ((markN (s.data.toList.drop a) : Nat) : Int)) ∧ ∃ n, w' = w.drewN n := by
  obtain ⟨c, hc, hc2⟩ := at_get s a ha
  by_cases h1 : a + 1 < s.size
  · obtain ⟨d, hd, hd2⟩ := at_get s (a + 1) h1
    have hx := ext_two s a c d hc2 hd2
    have ht : two (s.data.toList.drop a) = (((s.extract a (a + 2)).toList == [45, 62]) || ((s.extract a (a + 2)).toList == [61, 61])) := by
      rw [hx, drop_cons_get hc2, drop_cons_get hd2]
      rw [Bool.eq_iff_iff]
      simp [two, ← UInt8.toNat_inj]
    have hm : markN (s.data.toList.drop a) = if two (s.data.toList.drop a) then 2 else m1 c := by rw [drop_cons_get hc2]; rfl
    rw [hm, ht]
    cases e1 : ((s.extract a (a + 2)).toList == [45, 62]) with
    | true => exact rmark_two s a w hs h1 (.inl e1)
    | false =>
      cases e2 : ((s.extract a (a + 2)).toList == [61, 61]) with
      | true => exact rmark_two s a w hs h1 (.inr ⟨e1, e2⟩)
      | false => exact rmark_loop s a w hs ha c hc (.inr ⟨h1, e1, e2⟩)
  · have hm : markN (s.data.toList.drop a) = m1 c := by
      have e : s.data.toList.drop (a + 1) = [] := List.drop_eq_nil_of_le (by rw [← Lib.size_eq]; omega)
      rw [drop_cons_get hc2, e]
      rfl
    rw [hm]
    exact rmark_loop s a w hs ha c hc (.inl h1)

/-- What the token is that begins at a place: its kind, and where it ends; 0, 0: none. -/
def tokEnd (a : Nat) (l : List UInt8) : Nat := if signN l = 0 then 0 else a + signN l
theorem ret_two {a b c d : Int} (h1 : a = c) (h2 : b = d) : Ending.returned (.tuple #[.int .i64 a, .int .i64 b]) = .returned (.tuple #[.int .i64 c, .int .i64 d]) := by rw [h1, h2]
set_option maxHeartbeats 4000000 in
set_option maxRecDepth 100000 in
theorem rtoken_any (s : ByteArray) (a : Nat) (w : World) (hs : s.size ≤ 4611686018427387904) (ha : a < s.size) :
    Calls Tryd.prog 14 #[.string s, .int .i64 (a : Int)] w fun e w' => e = .returned (.tuple #[.int .i64 ((signK (s.data.toList.drop a) : Nat) : Int), .int .i64 ((tokEnd a (s.data.toList.drop a) : Nat) : Int)]) ∧ ∃ n, w' = w.drewN n := by
  obtain ⟨c, hc, hc2⟩ := at_get s a ha
  have hdc := drop_cons_get hc2
  have HZ := hid (Lib.size_eq s)
  have HC2 := hid hc2
  have c1 : ∀ W, Calls Tryd.prog 24 _ W _ := fun W => rletter_any c.toNat W
  have c2 : ∀ W, Calls Tryd.prog 26 _ W _ := fun W => rdigit_any c.toNat W
  clear hc2
  cases h1 : rLet c.toNat with
  | true =>
    rw [h1] at c1
    have k := sign_let c (s.data.toList.drop (a + 1)) h1
    rw [← hdc] at k
    have c3 : ∀ W, Calls Tryd.prog 25 _ W _ := fun W => rword_any s a W hs (by omega)
    have hl := wordN_le (s.data.toList.drop a)
    unfold tokEnd
    rw [k.1, k.2]
    generalize wordN (s.data.toList.drop a) = n at *
    have C1 := hid c1
    have C3 := hid c3
    clear c1 c2 c3 k hdc h1
    by_cases hn : 0 < n
    · have ec : ((a + n : Nat) : Int) = (a : Int) + (n : Int) := by omega
      rw [if_pos hn, if_neg (by omega), ec]
      rw [ec] at C3
      have hgt : (a : Int) < (a : Int) + (n : Int) := by omega
      clear ec
      go_enter Tryd.func14, Tryd.ntmps14
      go_wp2_with (first | (go_at_call 24; refine (C1.out _).mono ?_; rintro e w' ⟨rfl, rfl⟩) | (go_at_call 25; refine (C3.out _).mono ?_; rintro e w' ⟨rfl, rfl⟩))
      go_ret2
      exact ⟨rfl, 0, rfl⟩
    · obtain rfl : n = 0 := by omega
      simp only [Nat.add_zero] at C3
      rw [if_neg hn, if_pos rfl]
      clear hn
      go_enter Tryd.func14, Tryd.ntmps14
      go_wp2_with (first | (go_at_call 24; refine (C1.out _).mono ?_; rintro e w' ⟨rfl, rfl⟩) | (go_at_call 25; refine (C3.out _).mono ?_; rintro e w' ⟨rfl, rfl⟩))
      go_ret2
      exact ⟨rfl, 0, rfl⟩
  | false =>
    rw [h1] at c1
    have C1 := hid c1
    cases h2 : rDig c.toNat with
    | true =>
      rw [h2] at c2
      have C2 := hid c2
      have k := sign_dig c (s.data.toList.drop (a + 1)) h2
      rw [← hdc] at k
      have hd : (s.data.toList.drop a).length = s.size - a := by rw [List.length_drop, ← HZ.out]
      have HD := hid hd
      have hp : 0 < span isDig (s.data.toList.drop a) := by
        rw [hdc, span_cons_t isDig _ _ h2]; omega
      have fin : ∀ n, span isDig (s.data.toList.drop a) = n → (18 < n ∧ Hid (signK (s.data.toList.drop a) = 0 ∧ tokEnd a (s.data.toList.drop a) = 0)) ∨ (¬ 18 < n ∧ Hid (signK (s.data.toList.drop a) = 2 ∧ tokEnd a (s.data.toList.drop a) = a + n)) := by
        intro n h
        rw [h] at hp
        have hnum : numN (s.data.toList.drop a) = if 18 < n then 0 else n := by unfold numN; rw [h]
        unfold tokEnd
        rw [k.1, k.2, hnum]
        by_cases h18 : 18 < n
        · left; exact ⟨h18, hid (by simp [h18])⟩
        · right; exact ⟨h18, hid (by simp [h18, hp]; omega)⟩
      have FIN := hid fin
      clear fin
      clear k c1 c2 h1 h2 hd hdc hp
      go_enter Tryd.func14, Tryd.ntmps14
      go_wp2_with (first | (go_at_call 24; refine (C1.out _).mono ?_; rintro e w' ⟨rfl, rfl⟩) | (go_at_call 26; refine (C2.out _).mono ?_; rintro e w' ⟨rfl, rfl⟩))
      clear C1 C2 hc
      go_loopg [8] (s.size - a) (fun gf v wx => ∃ n : Nat, v = .int .i64 ((a + n : Nat) : Int) ∧ a + n ≤ s.size ∧ s.size ≤ a + n + gf ∧ Hid (SRel isDig (s.data.toList.drop a) n) ∧ wx = w)
      case atStart => exact ⟨0, by go_num, by omega, by omega, hid (srel_zero _ _), rfl⟩
      case round =>
        obtain ⟨n, rfl, hn, hg, HR, rfl⟩ := hrel
        have ec : ((a + n : Nat) : Int) = (a : Int) + (n : Int) := by omega
        have stop : span isDig (s.data.toList.drop a) = n → True ∧ _ := fun h => ⟨trivial, FIN.out n h⟩
        by_cases hlt : a + n < s.size
        · obtain ⟨d, hd, hd2⟩ := at_get s (a + n) hlt
          have hd3 : (s.data.toList.drop a)[n]? = some d := by rw [List.getElem?_drop]; exact hd2
          have c2 : ∀ W, Calls Tryd.prog 26 _ W _ := fun W => rdigit_any d.toNat W
          cases h2 : rDig d.toNat with
          | true =>
            rw [h2] at c2
            have C2 := hid c2
            have K := hid (srel_step HR.out hd3 h2)
            clear c2 h2 ec stop hd2 hd3
            go_wp2_with (go_at_call 26; refine (C2.out _).mono ?_; rintro e w' ⟨rfl, rfl⟩)
            go_roundg (gk - 1)
            case measure => omega
            case rel => exact ⟨n + 1, by go_num, by omega, by omega, K, rfl⟩
          | false =>
            rw [h2] at c2
            have C2 := hid c2
            have K := stop (srel_stop HR.out hd3 h2)
            clear c2 h2 ec stop hd2 hd3
            obtain ⟨_, ⟨h18, K⟩ | ⟨h18, K⟩⟩ := K
            · go_wp2_with (go_at_call 26; refine (C2.out _).mono ?_; rintro e w' ⟨rfl, rfl⟩)
              go_ret2
              exact ⟨ret_two (by rw [K.out.1]; rfl) (by rw [K.out.2]; rfl), 0, rfl⟩
            · go_wp2_with (go_at_call 26; refine (C2.out _).mono ?_; rintro e w' ⟨rfl, rfl⟩)
              go_ret2
              exact ⟨ret_two (by rw [K.out.1]; rfl) (by rw [K.out.2]; omega), 0, rfl⟩
        · have K := stop (srel_end HR.out (by rw [HD.out]; omega))
          clear ec stop
          obtain ⟨_, ⟨h18, K⟩ | ⟨h18, K⟩⟩ := K
          · go_wp2_with fail
            go_ret2
            exact ⟨ret_two (by rw [K.out.1]; rfl) (by rw [K.out.2]; rfl), 0, rfl⟩
          · go_wp2_with fail
            go_ret2
            exact ⟨ret_two (by rw [K.out.1]; rfl) (by rw [K.out.2]; omega), 0, rfl⟩
    | false =>
      rw [h2] at c2
      have C2 := hid c2
      by_cases h39 : c.toNat = 39
      · have k := sign_quote c (s.data.toList.drop (a + 1)) h39
        rw [← hdc] at k
        have c3 : ∀ W, Calls Tryd.prog 25 _ W _ := fun W => rword_any s (a + 1) W hs (by omega)
        have hl := wordN_le (s.data.toList.drop (a + 1))
        unfold tokEnd
        rw [k.1, k.2]
        generalize wordN (s.data.toList.drop (a + 1)) = n at *
        have e39 : ((c.toNat : Int) == 39) = true := by rw [h39]; rfl
        have C3 := hid c3
        clear c1 c2 c3 k hdc h1 h2 h39
        have ec1 : ((a + 1 : Nat) : Int) = (a : Int) + 1 := by omega
        have ec : ((a + 1 + n : Nat) : Int) = (a : Int) + 1 + (n : Int) := by omega
        rw [ec1, ec] at C3
        clear ec1 ec
        by_cases hn : 0 < n
        · rw [if_pos hn, if_pos hn, if_neg (by omega)]
          have HE : Hid ((a : Int) + 1 + (n : Int) = ((a + (1 + n) : Nat) : Int)) := hid (by omega)
          have hgt : (a : Int) + 1 < (a : Int) + 1 + (n : Int) := by omega
          go_enter Tryd.func14, Tryd.ntmps14
          go_wp2_with (first | (go_at_call 24; refine (C1.out _).mono ?_; rintro e w' ⟨rfl, rfl⟩) | (go_at_call 26; refine (C2.out _).mono ?_; rintro e w' ⟨rfl, rfl⟩) | (go_at_call 25; refine (C3.out _).mono ?_; rintro e w' ⟨rfl, rfl⟩))
          go_ret2
          exact ⟨ret_two rfl HE.out, 0, rfl⟩
        · obtain rfl : n = 0 := by omega
          simp only [Nat.lt_irrefl, if_false, if_true]
          rw [show (a : Int) + 1 + ((0 : Nat) : Int) = (a : Int) + 1 by simp] at C3
          clear hn
          go_enter Tryd.func14, Tryd.ntmps14
          go_wp2_with (first | (go_at_call 24; refine (C1.out _).mono ?_; rintro e w' ⟨rfl, rfl⟩) | (go_at_call 26; refine (C2.out _).mono ?_; rintro e w' ⟨rfl, rfl⟩) | (go_at_call 25; refine (C3.out _).mono ?_; rintro e w' ⟨rfl, rfl⟩))
          go_ret2
          exact ⟨rfl, 0, rfl⟩
      · have k := sign_else c (s.data.toList.drop (a + 1)) h1 h2 h39
        rw [← hdc] at k
        have c3 : ∀ W, Calls Tryd.prog 27 _ W _ := fun W => rmark_any s a W hs ha
        have hl := markN_le (s.data.toList.drop a)
        unfold tokEnd
        rw [k.1, k.2]
        generalize markN (s.data.toList.drop a) = n at *
        have e39 : ((c.toNat : Int) == 39) = false := by simp; omega
        have C3 := hid c3
        clear c1 c2 c3 k hdc h1 h2 h39
        by_cases hn : 0 < n
        · rw [if_pos hn, if_neg (by omega)]
          have HE : Hid ((a : Int) + (n : Int) = ((a + n : Nat) : Int)) := hid (by omega)
          go_enter Tryd.func14, Tryd.ntmps14
          go_wp2_with (first | (go_at_call 24; refine (C1.out _).mono ?_; rintro e w' ⟨rfl, rfl⟩) | (go_at_call 26; refine (C2.out _).mono ?_; rintro e w' ⟨rfl, rfl⟩) | (go_at_call 27; refine (C3.out _).mono ?_; rintro e w' ⟨rfl, q, rfl⟩))
          go_ret2
          exact ⟨ret_two rfl HE.out, _, rfl⟩
        · obtain rfl : n = 0 := by omega
          simp only [Nat.lt_irrefl, if_false, if_true]
          clear hn
          go_enter Tryd.func14, Tryd.ntmps14
          go_wp2_with (first | (go_at_call 24; refine (C1.out _).mono ?_; rintro e w' ⟨rfl, rfl⟩) | (go_at_call 26; refine (C2.out _).mono ?_; rintro e w' ⟨rfl, rfl⟩) | (go_at_call 27; refine (C3.out _).mono ?_; rintro e w' ⟨rfl, q, rfl⟩))
          go_ret2
          exact ⟨rfl, _, rfl⟩
end Go.Proofs.YtaekojpmhbkfgaaDoor.LexC
