/- Texts joined: LexRef, TreeRA, TreeKit, TreeKit2, TreeNm. -/
import Derived.Test.YtjkdcladjjpmoaaGreatDoorJ03
import Derived.Test.YtjkdcladjjpmoaaGreatDoorJ00
import Derived.Lib.QuietBelow
import Derived.BigQuiet
/- Contracts of the document's answer of layer 1 (lienbookref01). -/
namespace Go.Proofs.YtjkdcladjjpmoaaGreatDoor.LexC
open Go Go.RowKit Go.Lib Go.Proofs.YtjkdcladjjpmoaaGreatDoor.LexP

set_option maxHeartbeats 400000 in
theorem rletter_any (v : Nat) (w : World) : Calls Tryz.prog 167 #[.int .u8 (v : Int)] w fun e w' => e = .returned (.bool (rLet v)) ∧ w = w' := by
  go_enter Tryz.func167, Tryz.ntmps167
  go_wp2
  all_goals go_ret
  all_goals refine ⟨ret_bool ?_, rfl⟩
  all_goals (rw [Bool.eq_iff_iff]; simp [rLet]; omega)
set_option maxHeartbeats 400000 in
theorem rdigit_any (v : Nat) (w : World) : Calls Tryz.prog 169 #[.int .u8 (v : Int)] w fun e w' => e = .returned (.bool (rDig v)) ∧ w = w' := by
  go_enter Tryz.func169, Tryz.ntmps169
  go_wp2
  all_goals go_ret
  all_goals refine ⟨ret_bool ?_, rfl⟩
  all_goals (rw [Bool.eq_iff_iff]; simp [rDig]; omega)

theorem at_get (s : ByteArray) (i : Nat) (h : i < s.size) : ∃ c : UInt8, s[i]'h = c ∧ s.data.toList[i]? = some c := by
  refine ⟨_, rfl, ?_⟩
  rw [get_some s i h]
  congr 1
  simp [ByteArray.get!, getElem!_pos, h]
  rfl

set_option maxHeartbeats 2000000 in
theorem rword_any (s : ByteArray) (a : Nat) (w : World) (hs : s.size ≤ 4611686018427387904) (ha : a ≤ s.size) :
    Calls Tryz.prog 168 #[.string s, .int .i64 (a : Int)] w fun e w' => e = .returned (.int .i64 ((a + wordN (s.data.toList.drop a) : Nat) : Int)) ∧ w = w' := by
  have hz := Lib.size_eq s
  have hd : (s.data.toList.drop a).length = s.size - a := by rw [List.length_drop, ← hz]
  have HZ := hid hz
  have HD := hid hd
  clear hz hd
  go_enter Tryz.func168, Tryz.ntmps168
  go_wp2
  go_loopg [5] (s.size - a) (fun gf v wx => ∃ n : Nat, v = .int .i64 ((a + n : Nat) : Int) ∧ a + n ≤ s.size ∧ s.size ≤ a + n + gf ∧ Hid (WRel (s.data.toList.drop a) n) ∧ wx = w)
  case atStart => exact ⟨0, by go_num, by omega, by omega, hid (wrel_zero _), rfl⟩
  case round =>
    obtain ⟨n, rfl, hn, hg, HR, rfl⟩ := hrel
    have ec : ((a + n : Nat) : Int) = (a : Int) + (n : Int) := by omega
    by_cases hlt : a + n < s.size
    · obtain ⟨c, hc, hc2⟩ := at_get s (a + n) hlt
      have hc3 : (s.data.toList.drop a)[n]? = some c := by rw [List.getElem?_drop]; exact hc2
      have HC := hid hc3
      have c1 : ∀ W, Calls Tryz.prog 167 _ W _ := fun W => rletter_any c.toNat W
      have c2 : ∀ W, Calls Tryz.prog 169 _ W _ := fun W => rdigit_any c.toNat W
      clear hc2 hc3
      cases h1 : rLet c.toNat with
      | true =>
        rw [h1] at c1
        have C1 := hid c1
        have K := hid (wrel_step HR.out HC.out (.inl h1))
        clear c1 c2 h1 ec
        go_wp2_with (go_at_call 167; refine (C1.out _).mono ?_; rintro e w' ⟨rfl, rfl⟩)
        go_roundg (gk - 1)
        case measure => omega
        case rel => exact ⟨n + 1, by go_num, by omega, by omega, K, rfl⟩
      | false =>
        rw [h1] at c1
        have C1 := hid c1
        by_cases hn0 : 0 < n
        · cases h2 : rDig c.toNat with
          | true =>
            rw [h2] at c2
            have C2 := hid c2
            have K := hid (wrel_step HR.out HC.out (.inr ⟨hn0, h2⟩))
            clear c1 c2 h1 h2 ec
            go_wp2_with (first | (go_at_call 167; refine (C1.out _).mono ?_; rintro e w' ⟨rfl, rfl⟩) | (go_at_call 169; refine (C2.out _).mono ?_; rintro e w' ⟨rfl, rfl⟩))
            go_roundg (gk - 1)
            case measure => omega
            case rel => exact ⟨n + 1, by go_num, by omega, by omega, K, rfl⟩
          | false =>
            rw [h2] at c2
            have C2 := hid c2
            have K := hid (wrel_stop HR.out HC.out h1 (by simp [h2]))
            clear c1 c2 h1 h2 ec
            by_cases h30 : 30 < n
            · go_wp2_with (first | (go_at_call 167; refine (C1.out _).mono ?_; rintro e w' ⟨rfl, rfl⟩) | (go_at_call 169; refine (C2.out _).mono ?_; rintro e w' ⟨rfl, rfl⟩))
              go_ret
              exact ⟨ret_int (by rw [K.out, if_pos h30]; rfl), rfl⟩
            · go_wp2_with (first | (go_at_call 167; refine (C1.out _).mono ?_; rintro e w' ⟨rfl, rfl⟩) | (go_at_call 169; refine (C2.out _).mono ?_; rintro e w' ⟨rfl, rfl⟩))
              go_ret
              exact ⟨ret_int (by rw [K.out, if_neg h30]; omega), rfl⟩
        · obtain rfl : n = 0 := by omega
          have K := hid (wrel_stop HR.out HC.out h1 (by simp))
          have hlt' : a < s.size := by omega
          have hc' : s[a]'hlt' = c := by simpa using hc
          clear c1 c2 h1 ec hc hlt hn hg
          go_wp2_with (go_at_call 167; refine (C1.out _).mono ?_; rintro e w' ⟨rfl, rfl⟩)
          go_ret
          exact ⟨ret_int (by rw [K.out]; rfl), rfl⟩
    · have K := hid (wrel_end HR.out (by rw [HD.out]; omega))
      by_cases h30 : 30 < n
      · clear ec
        go_wp2_with fail
        go_ret
        exact ⟨ret_int (by rw [K.out, if_pos h30]; rfl), rfl⟩
      · clear ec
        go_wp2_with fail
        go_ret
        exact ⟨ret_int (by rw [K.out, if_neg h30]), rfl⟩

theorem ext_two (s : ByteArray) (a : Nat) (c0 c1 : UInt8) (h0 : s.data.toList[a]? = some c0) (h1 : s.data.toList[a + 1]? = some c1) : (s.extract a (a + 2)).toList = [c0, c1] := by
  rw [Lib.extract_toList, show a + 2 - a = 2 by omega, drop_cons_get h0, drop_cons_get h1]
  rfl
/-- how many bytes a mark of one byte has -/
def m1 (c : UInt8) : Nat := if marks.contains c = true then 1 else 0
set_option maxHeartbeats 2000000 in
set_option maxRecDepth 100000 in
theorem rmark_loop (s : ByteArray) (a : Nat) (w : World) (hs : s.size ≤ 4611686018427387904) (ha : a < s.size) (c : UInt8) (hc : s[a]'ha = c)
    (hno : ¬ a + 1 < s.size ∨ (a + 1 < s.size ∧ ((s.extract a (a + 2)).toList == [45, 62]) = false ∧ ((s.extract a (a + 2)).toList == [61, 61]) = false)) :
    Calls Tryz.prog 170 #[.string s, .int .i64 (a : Int)] w fun e w' => e = .returned (.int .i64 ((m1 c : Nat) : Int)) ∧ ∃ n, w' = w.drewN n := by
  rcases hno with h1 | ⟨h1, e1, e2⟩
  all_goals
    go_enter Tryz.func170, Tryz.ntmps170
    go_wp2
    go_loopg [6] 17 (fun gf v wx => ∃ i : Nat, v = .int .i64 (i : Int) ∧ i ≤ 17 ∧ 17 ≤ i + gf ∧ Hid (marks.contains c = (marks.drop i).contains c) ∧ Hid (∃ n, wx = w.drewN n))
    case atStart => exact ⟨0, rfl, by omega, by omega, hid (by simp), hid ⟨0, rfl⟩⟩
    case round =>
      obtain ⟨i, rfl, hi, hg, HM, HW⟩ := hrel
      by_cases hlt : i < 17
      · obtain ⟨y, hy, hy2⟩ := at_get ⟨#[40, 41, 123, 125, 91, 93, 44, 59, 58, 46, 38, 42, 61, 43, 45, 47, 60]⟩ i hlt
        have hy3 : marks[i]? = some y := hy2
        have H0 := HM.out
        rw [drop_cons_get hy3, List.contains_cons] at H0
        have hlt2 : (i : Int) < 17 := by omega
        have hi0 : (0 : Int) ≤ (i : Int) := by omega
        have ha2 : (a : Int) < (s.size : Int) := by omega
        obtain ⟨q, hq⟩ := HW.out
        subst hq
        by_cases hyc : y = c
        · have K : Hid (m1 c = 1) := hid (by unfold m1; rw [H0, hyc]; simp)
          have e : ((y.toNat : Int) == (c.toNat : Int)) = true := by rw [hyc]; simp
          clear hyc H0 hy3 hy2 HM HW
          go_wp2_with fail
          go_quiet (fail)
          go_wp2_with fail
          go_ret
          exact ⟨ret_int (by rw [K.out]; rfl), q + nq, by first | rfl | exact World.drewN_drewN _ _ _⟩
        · have K : Hid (marks.contains c = (marks.drop (i + 1)).contains c) := hid (by
            rw [H0, show (c == y) = false by simpa using fun h => hyc h.symm, Bool.false_or])
          have e : ((y.toNat : Int) == (c.toNat : Int)) = false := by
            simp only [beq_eq_false_iff_ne, ne_eq]
            intro h
            exact hyc (UInt8.toNat_inj.1 (by omega))
          clear hyc H0 hy3 hy2 HM HW
          go_wp2_with fail
          go_quiet (fail)
          go_wp2_with fail
          go_roundg (gk - 1)
          case measure => omega
          case rel => exact ⟨i + 1, by go_num, by omega, by omega, K, hid ⟨_, rfl⟩⟩
      · obtain ⟨q, hq⟩ := HW.out
        subst hq
        have K : Hid (m1 c = 0) := hid (by
          unfold m1
          rw [HM.out, List.drop_eq_nil_of_le (by show 17 ≤ i; omega)]; rfl)
        have hlt2 : ¬ (i : Int) < 17 := by omega
        clear HM HW
        go_wp2_with fail
        go_ret
        exact ⟨ret_int (by rw [K.out]; rfl), _, rfl⟩

set_option maxHeartbeats 2000000 in
set_option maxRecDepth 100000 in
theorem rmark_two (s : ByteArray) (a : Nat) (w : World) (hs : s.size ≤ 4611686018427387904) (ha : a + 1 < s.size)
    (h : ((s.extract a (a + 2)).toList == [45, 62]) = true ∨ (((s.extract a (a + 2)).toList == [45, 62]) = false ∧ ((s.extract a (a + 2)).toList == [61, 61]) = true)) :
    Calls Tryz.prog 170 #[.string s, .int .i64 (a : Int)] w fun e w' => e = .returned (.int .i64 2) ∧ ∃ n, w' = w.drewN n := by
  rcases h with e1 | ⟨e1, e2⟩
  all_goals
    go_enter Tryz.func170, Tryz.ntmps170
    go_wp2
    go_ret
    exact ⟨rfl, 0, rfl⟩
theorem rmark_any (s : ByteArray) (a : Nat) (w : World) (hs : s.size ≤ 4611686018427387904) (ha : a < s.size) :
    Calls Tryz.prog 170 #[.string s, .int .i64 (a : Int)] w fun e w' => e = .returned (.int .i64 ((markN (s.data.toList.drop a) : Nat) : Int)) ∧ ∃ n, w' = w.drewN n := by
  obtain ⟨c, hc, hc2⟩ := at_get s a ha
  by_cases h1 : a + 1 < s.size
  · obtain ⟨d, hd, hd2⟩ := at_get s (a + 1) h1
    have hx := ext_two s a c d hc2 hd2
    have ht : two (s.data.toList.drop a) = (((s.extract a (a + 2)).toList == [45, 62]) || ((s.extract a (a + 2)).toList == [61, 61])) := by
      rw [hx, drop_cons_get hc2, drop_cons_get hd2]
      rw [Bool.eq_iff_iff]
      simp [two, ← UInt8.toNat_inj]
    have hm : markN (s.data.toList.drop a) = if two (s.data.toList.drop a) then 2 else m1 c := by rw [drop_cons_get hc2]; rfl
    rw [hm, ht]
    cases e1 : ((s.extract a (a + 2)).toList == [45, 62]) with
    | true => exact rmark_two s a w hs h1 (.inl e1)
    | false =>
      cases e2 : ((s.extract a (a + 2)).toList == [61, 61]) with
      | true => exact rmark_two s a w hs h1 (.inr ⟨e1, e2⟩)
      | false => exact rmark_loop s a w hs ha c hc (.inr ⟨h1, e1, e2⟩)
  · have hm : markN (s.data.toList.drop a) = m1 c := by
      have e : s.data.toList.drop (a + 1) = [] := List.drop_eq_nil_of_le (by rw [← Lib.size_eq]; omega)
      rw [drop_cons_get hc2, e]
      rfl
    rw [hm]
    exact rmark_loop s a w hs ha c hc (.inl h1)

/-- What the token is that begins at a place: its kind, and where it ends; 0, 0: none. -/
def tokEnd (a : Nat) (l : List UInt8) : Nat := if signN l = 0 then 0 else a + signN l
theorem ret_two {a b c d : Int} (h1 : a = c) (h2 : b = d) : Ending.returned (.tuple #[.int .i64 a, .int .i64 b]) = .returned (.tuple #[.int .i64 c, .int .i64 d]) := by rw [h1, h2]
set_option maxHeartbeats 4000000 in
set_option maxRecDepth 100000 in
theorem rtoken_any (s : ByteArray) (a : Nat) (w : World) (hs : s.size ≤ 4611686018427387904) (ha : a < s.size) :
    Calls Tryz.prog 114 #[.string s, .int .i64 (a : Int)] w fun e w' => e = .returned (.tuple #[.int .i64 ((signK (s.data.toList.drop a) : Nat) : Int), .int .i64 ((tokEnd a (s.data.toList.drop a) : Nat) : Int)]) ∧ ∃ n, w' = w.drewN n := by
  obtain ⟨c, hc, hc2⟩ := at_get s a ha
  have hdc := drop_cons_get hc2
  have HZ := hid (Lib.size_eq s)
  have HC2 := hid hc2
  have c1 : ∀ W, Calls Tryz.prog 167 _ W _ := fun W => rletter_any c.toNat W
  have c2 : ∀ W, Calls Tryz.prog 169 _ W _ := fun W => rdigit_any c.toNat W
  clear hc2
  cases h1 : rLet c.toNat with
  | true =>
    rw [h1] at c1
    have k := sign_let c (s.data.toList.drop (a + 1)) h1
    rw [← hdc] at k
    have c3 : ∀ W, Calls Tryz.prog 168 _ W _ := fun W => rword_any s a W hs (by omega)
    have hl := wordN_le (s.data.toList.drop a)
    unfold tokEnd
    rw [k.1, k.2]
    generalize wordN (s.data.toList.drop a) = n at *
    have C1 := hid c1
    have C3 := hid c3
    clear c1 c2 c3 k hdc h1
    by_cases hn : 0 < n
    · have ec : ((a + n : Nat) : Int) = (a : Int) + (n : Int) := by omega
      rw [if_pos hn, if_neg (by omega), ec]
      rw [ec] at C3
      have hgt : (a : Int) < (a : Int) + (n : Int) := by omega
      clear ec
      go_enter Tryz.func114, Tryz.ntmps114
      go_wp2_with (first | (go_at_call 167; refine (C1.out _).mono ?_; rintro e w' ⟨rfl, rfl⟩) | (go_at_call 168; refine (C3.out _).mono ?_; rintro e w' ⟨rfl, rfl⟩))
      go_ret2
      exact ⟨rfl, 0, rfl⟩
    · obtain rfl : n = 0 := by omega
      simp only [Nat.add_zero] at C3
      rw [if_neg hn, if_pos rfl]
      clear hn
      go_enter Tryz.func114, Tryz.ntmps114
      go_wp2_with (first | (go_at_call 167; refine (C1.out _).mono ?_; rintro e w' ⟨rfl, rfl⟩) | (go_at_call 168; refine (C3.out _).mono ?_; rintro e w' ⟨rfl, rfl⟩))
      go_ret2
      exact ⟨rfl, 0, rfl⟩
  | false =>
    rw [h1] at c1
    have C1 := hid c1
    cases h2 : rDig c.toNat with
    | true =>
      rw [h2] at c2
      have C2 := hid c2
      have k := sign_dig c (s.data.toList.drop (a + 1)) h2
      rw [← hdc] at k
      have hd : (s.data.toList.drop a).length = s.size - a := by rw [List.length_drop, ← HZ.out]
      have HD := hid hd
      have hp : 0 < span isDig (s.data.toList.drop a) := by
        rw [hdc, span_cons_t isDig _ _ h2]; omega
      have fin : ∀ n, span isDig (s.data.toList.drop a) = n → (18 < n ∧ Hid (signK (s.data.toList.drop a) = 0 ∧ tokEnd a (s.data.toList.drop a) = 0)) ∨ (¬ 18 < n ∧ Hid (signK (s.data.toList.drop a) = 2 ∧ tokEnd a (s.data.toList.drop a) = a + n)) := by
        intro n h
        rw [h] at hp
        have hnum : numN (s.data.toList.drop a) = if 18 < n then 0 else n := by unfold numN; rw [h]
        unfold tokEnd
        rw [k.1, k.2, hnum]
        by_cases h18 : 18 < n
        · left; exact ⟨h18, hid (by simp [h18])⟩
        · right; exact ⟨h18, hid (by simp [h18, hp]; omega)⟩
      have FIN := hid fin
      clear fin
      clear k c1 c2 h1 h2 hd hdc hp
      go_enter Tryz.func114, Tryz.ntmps114
      go_wp2_with (first | (go_at_call 167; refine (C1.out _).mono ?_; rintro e w' ⟨rfl, rfl⟩) | (go_at_call 169; refine (C2.out _).mono ?_; rintro e w' ⟨rfl, rfl⟩))
      clear C1 C2 hc
      go_loopg [8] (s.size - a) (fun gf v wx => ∃ n : Nat, v = .int .i64 ((a + n : Nat) : Int) ∧ a + n ≤ s.size ∧ s.size ≤ a + n + gf ∧ Hid (SRel isDig (s.data.toList.drop a) n) ∧ wx = w)
      case atStart => exact ⟨0, by go_num, by omega, by omega, hid (srel_zero _ _), rfl⟩
      case round =>
        obtain ⟨n, rfl, hn, hg, HR, rfl⟩ := hrel
        have ec : ((a + n : Nat) : Int) = (a : Int) + (n : Int) := by omega
        have stop : span isDig (s.data.toList.drop a) = n → True ∧ _ := fun h => ⟨trivial, FIN.out n h⟩
        by_cases hlt : a + n < s.size
        · obtain ⟨d, hd, hd2⟩ := at_get s (a + n) hlt
          have hd3 : (s.data.toList.drop a)[n]? = some d := by rw [List.getElem?_drop]; exact hd2
          have c2 : ∀ W, Calls Tryz.prog 169 _ W _ := fun W => rdigit_any d.toNat W
          cases h2 : rDig d.toNat with
          | true =>
            rw [h2] at c2
            have C2 := hid c2
            have K := hid (srel_step HR.out hd3 h2)
            clear c2 h2 ec stop hd2 hd3
            go_wp2_with (go_at_call 169; refine (C2.out _).mono ?_; rintro e w' ⟨rfl, rfl⟩)
            go_roundg (gk - 1)
            case measure => omega
            case rel => exact ⟨n + 1, by go_num, by omega, by omega, K, rfl⟩
          | false =>
            rw [h2] at c2
            have C2 := hid c2
            have K := stop (srel_stop HR.out hd3 h2)
            clear c2 h2 ec stop hd2 hd3
            obtain ⟨_, ⟨h18, K⟩ | ⟨h18, K⟩⟩ := K
            · go_wp2_with (go_at_call 169; refine (C2.out _).mono ?_; rintro e w' ⟨rfl, rfl⟩)
              go_ret2
              exact ⟨ret_two (by rw [K.out.1]; rfl) (by rw [K.out.2]; rfl), 0, rfl⟩
            · go_wp2_with (go_at_call 169; refine (C2.out _).mono ?_; rintro e w' ⟨rfl, rfl⟩)
              go_ret2
              exact ⟨ret_two (by rw [K.out.1]; rfl) (by rw [K.out.2]; omega), 0, rfl⟩
        · have K := stop (srel_end HR.out (by rw [HD.out]; omega))
          clear ec stop
          obtain ⟨_, ⟨h18, K⟩ | ⟨h18, K⟩⟩ := K
          · go_wp2_with fail
            go_ret2
            exact ⟨ret_two (by rw [K.out.1]; rfl) (by rw [K.out.2]; rfl), 0, rfl⟩
          · go_wp2_with fail
            go_ret2
            exact ⟨ret_two (by rw [K.out.1]; rfl) (by rw [K.out.2]; omega), 0, rfl⟩
    | false =>
      rw [h2] at c2
      have C2 := hid c2
      by_cases h39 : c.toNat = 39
      · have k := sign_quote c (s.data.toList.drop (a + 1)) h39
        rw [← hdc] at k
        have c3 : ∀ W, Calls Tryz.prog 168 _ W _ := fun W => rword_any s (a + 1) W hs (by omega)
        have hl := wordN_le (s.data.toList.drop (a + 1))
        unfold tokEnd
        rw [k.1, k.2]
        generalize wordN (s.data.toList.drop (a + 1)) = n at *
        have e39 : ((c.toNat : Int) == 39) = true := by rw [h39]; rfl
        have C3 := hid c3
        clear c1 c2 c3 k hdc h1 h2 h39
        have ec1 : ((a + 1 : Nat) : Int) = (a : Int) + 1 := by omega
        have ec : ((a + 1 + n : Nat) : Int) = (a : Int) + 1 + (n : Int) := by omega
        rw [ec1, ec] at C3
        clear ec1 ec
        by_cases hn : 0 < n
        · rw [if_pos hn, if_pos hn, if_neg (by omega)]
          have HE : Hid ((a : Int) + 1 + (n : Int) = ((a + (1 + n) : Nat) : Int)) := hid (by omega)
          have hgt : (a : Int) + 1 < (a : Int) + 1 + (n : Int) := by omega
          go_enter Tryz.func114, Tryz.ntmps114
          go_wp2_with (first | (go_at_call 167; refine (C1.out _).mono ?_; rintro e w' ⟨rfl, rfl⟩) | (go_at_call 169; refine (C2.out _).mono ?_; rintro e w' ⟨rfl, rfl⟩) | (go_at_call 168; refine (C3.out _).mono ?_; rintro e w' ⟨rfl, rfl⟩))
          go_ret2
          exact ⟨ret_two rfl HE.out, 0, rfl⟩
        · obtain rfl : n = 0 := by omega
          simp only [Nat.lt_irrefl, if_false, if_true]
          rw [show (a : Int) + 1 + ((0 : Nat) : Int) = (a : Int) + 1 by simp] at C3
          clear hn
          go_enter Tryz.func114, Tryz.ntmps114
          go_wp2_with (first | (go_at_call 167; refine (C1.out _).mono ?_; rintro e w' ⟨rfl, rfl⟩) | (go_at_call 169; refine (C2.out _).mono ?_; rintro e w' ⟨rfl, rfl⟩) | (go_at_call 168; refine (C3.out _).mono ?_; rintro e w' ⟨rfl, rfl⟩))
          go_ret2
          exact ⟨rfl, 0, rfl⟩
      · have k := sign_else c (s.data.toList.drop (a + 1)) h1 h2 h39
        rw [← hdc] at k
        have c3 : ∀ W, Calls Tryz.prog 170 _ W _ := fun W => rmark_any s a W hs ha
        have hl := markN_le (s.data.toList.drop a)
        unfold tokEnd
        rw [k.1, k.2]
        generalize markN (s.data.toList.drop a) = n at *
        have e39 : ((c.toNat : Int) == 39) = false := by simp; omega
        have C3 := hid c3
        clear c1 c2 c3 k hdc h1 h2 h39
        by_cases hn : 0 < n
        · rw [if_pos hn, if_neg (by omega)]
          have HE : Hid ((a : Int) + (n : Int) = ((a + n : Nat) : Int)) := hid (by omega)
          go_enter Tryz.func114, Tryz.ntmps114
          go_wp2_with (first | (go_at_call 167; refine (C1.out _).mono ?_; rintro e w' ⟨rfl, rfl⟩) | (go_at_call 169; refine (C2.out _).mono ?_; rintro e w' ⟨rfl, rfl⟩) | (go_at_call 170; refine (C3.out _).mono ?_; rintro e w' ⟨rfl, q, rfl⟩))
          go_ret2
          exact ⟨ret_two rfl HE.out, _, rfl⟩
        · obtain rfl : n = 0 := by omega
          simp only [Nat.lt_irrefl, if_false, if_true]
          clear hn
          go_enter Tryz.func114, Tryz.ntmps114
          go_wp2_with (first | (go_at_call 167; refine (C1.out _).mono ?_; rintro e w' ⟨rfl, rfl⟩) | (go_at_call 169; refine (C2.out _).mono ?_; rintro e w' ⟨rfl, rfl⟩) | (go_at_call 170; refine (C3.out _).mono ?_; rintro e w' ⟨rfl, q, rfl⟩))
          go_ret2
          exact ⟨rfl, _, rfl⟩
end Go.Proofs.YtjkdcladjjpmoaaGreatDoor.LexC
/- Contracts of lienbookref02's small functions: names, places, strengths. -/
namespace Go.Proofs.YtjkdcladjjpmoaaGreatDoor.TreeC
open Go Go.RowKit Go.Lib Go.Proofs.YtjkdcladjjpmoaaGreatDoor.LexP Go.Proofs.YtjkdcladjjpmoaaGreatDoor.TreeP Go.Proofs.YtjkdcladjjpmoaaGreatDoor.LexC

theorem ret_nat {a b : Nat} (h : a = b) : Ending.returned (.int .i64 (a : Int)) = .returned (.int .i64 (b : Int)) := by rw [h]
set_option maxHeartbeats 400000 in
theorem rPlace_any (e : Ex) (w : World) : Calls Tryz.prog 144 #[e.val] w fun r w' => r = .returned (.bool e.place) ∧ Below w.heap.size w w' := by
  obtain ⟨k, num, name, mt, v, kids⟩ := e
  simp only [Ex.val_mk]
  go_enter Tryz.func144, Tryz.ntmps144
  go_wp2
  all_goals go_ret
  all_goals refine ⟨ret_bool ?_, (Below.refl _ _).alloc (Nat.le_refl _) _⟩
  all_goals simp [Ex.place, Ex.kind, placeK, *]
set_option maxHeartbeats 400000 in
theorem rmore_any (a b : Nat) (w : World) : Calls Tryz.prog 39 #[.int .i64 (a : Int), .int .i64 (b : Int)] w fun r w' => r = .returned (.int .i64 ((max a b : Nat) : Int)) ∧ w = w' := by
  go_enter Tryz.func39, Tryz.ntmps39
  go_wp2
  all_goals go_ret
  all_goals exact ⟨ret_nat (by omega), rfl⟩
theorem str_of (k : Int) (name : ByteArray) (n : Nat) (h : (if (k == 8) = true then if (name.toList == [60]) = true then 1 else if (name.toList == [61, 61]) = true then 1 else if (name.toList == [43]) = true then 2 else if (name.toList == [45]) = true then 2 else if (name.toList == [42]) = true then 3 else if (name.toList == [47]) = true then 3 else 4 else 4) = n) : strK k (bs name) = n := by
  rw [← h, Lib.toList_data]
  unfold strK bs
  simp only [beq_iff_eq]
  by_cases h0 : k = 8
  · simp only [h0, if_true]
    by_cases h1 : name.data.toList = [60] <;> by_cases h2 : name.data.toList = [61, 61] <;> by_cases h3 : name.data.toList = [43] <;> by_cases h4 : name.data.toList = [45] <;> by_cases h5 : name.data.toList = [42] <;> simp_all
  · simp [h0]
set_option maxHeartbeats 1000000 in
theorem rStr_any (e : Ex) (w : World) : Calls Tryz.prog 145 #[e.val] w fun r w' => r = .returned (.int .i64 (e.str : Int)) ∧ Below w.heap.size w w' := by
  obtain ⟨k, num, name, mt, v, kids⟩ := e
  have ho := str_of k name
  simp only [Ex.val_mk, Ex.str, Ex.kind, Ex.name]
  obtain ⟨S, hS⟩ : ∃ S, strK k (bs name) = S := ⟨_, rfl⟩
  rw [hS] at ho ⊢
  clear hS
  cases a0 : (k == 8)
  · have H := ho 4 (by rw [a0]; rfl)
    clear ho
    subst H
    go_enter Tryz.func145, Tryz.ntmps145
    go_wp2
    go_ret
    exact ⟨rfl, (Below.refl _ _).alloc (Nat.le_refl _) _⟩
  cases a1 : (name.toList == [60])
  case true =>
    have H := ho 1 (by rw [a0, a1]; rfl)
    clear ho
    subst H
    go_enter Tryz.func145, Tryz.ntmps145
    go_wp2
    go_ret
    exact ⟨rfl, (Below.refl _ _).alloc (Nat.le_refl _) _⟩
  cases a2 : (name.toList == [61, 61])
  case true =>
    have H := ho 1 (by rw [a0, a1, a2]; rfl)
    clear ho
    subst H
    go_enter Tryz.func145, Tryz.ntmps145
    go_wp2
    go_ret
    exact ⟨rfl, (Below.refl _ _).alloc (Nat.le_refl _) _⟩
  cases a3 : (name.toList == [43])
  case true =>
    have H := ho 2 (by rw [a0, a1, a2, a3]; rfl)
    clear ho
    subst H
    go_enter Tryz.func145, Tryz.ntmps145
    go_wp2
    go_ret
    exact ⟨rfl, (Below.refl _ _).alloc (Nat.le_refl _) _⟩
  cases a4 : (name.toList == [45])
  case true =>
    have H := ho 2 (by rw [a0, a1, a2, a3, a4]; rfl)
    clear ho
    subst H
    go_enter Tryz.func145, Tryz.ntmps145
    go_wp2
    go_ret
    exact ⟨rfl, (Below.refl _ _).alloc (Nat.le_refl _) _⟩
  cases a5 : (name.toList == [42])
  case true =>
    have H := ho 3 (by rw [a0, a1, a2, a3, a4, a5]; rfl)
    clear ho
    subst H
    go_enter Tryz.func145, Tryz.ntmps145
    go_wp2
    go_ret
    exact ⟨rfl, (Below.refl _ _).alloc (Nat.le_refl _) _⟩
  cases a6 : (name.toList == [47])
  case true =>
    have H := ho 3 (by rw [a0, a1, a2, a3, a4, a5, a6]; rfl)
    clear ho
    subst H
    go_enter Tryz.func145, Tryz.ntmps145
    go_wp2
    go_ret
    exact ⟨rfl, (Below.refl _ _).alloc (Nat.le_refl _) _⟩
  case false =>
    have H := ho 4 (by rw [a0, a1, a2, a3, a4, a5, a6]; rfl)
    clear ho
    subst H
    go_enter Tryz.func145, Tryz.ntmps145
    go_wp2
    go_ret
    exact ⟨rfl, (Below.refl _ _).alloc (Nat.le_refl _) _⟩
set_option maxHeartbeats 1000000 in
theorem rIsWord_any (s : ByteArray) (w : World) (hs : s.size ≤ 4611686018427387904) : Calls Tryz.prog 142 #[.string s] w fun r w' => r = .returned (.bool (wordB (bs s))) ∧ w = w' := by
  have c1 := fun W => rword_any s 0 W hs (Nat.zero_le _)
  have hz := Lib.size_eq s
  have hw : (wordB (bs s)) = (decide (0 < s.size) && decide (((0 + wordN ((bs s).drop 0) : Nat) : Int) = (s.size : Int))) := by
    unfold wordB
    rw [List.drop_zero, Nat.zero_add, Bool.eq_iff_iff]
    simp only [Bool.and_eq_true, Bool.not_eq_true', List.isEmpty_eq_false_iff, beq_iff_eq, decide_eq_true_eq, ← List.length_pos_iff]
    unfold bs
    omega
  rw [hw]
  generalize 0 + wordN ((bs s).drop 0) = n at *
  have C1 := hid c1
  clear c1 hz hw
  by_cases h0 : 0 < s.size
  · go_enter Tryz.func142, Tryz.ntmps142
    go_wp2_with fail
    refine (C1.out _).mono ?_
    rintro e W1 ⟨rfl, rfl⟩
    go_wp2_with fail
    go_ret
    exact ⟨by simp [h0]; rfl, rfl⟩
  · go_enter Tryz.func142, Tryz.ntmps142
    go_wp2_with fail
    go_ret
    exact ⟨by simp [h0], rfl⟩

/-- the i-th kept word -/
def keptS (i : Nat) : ByteArray := ⟨(kept.getD i []).toArray⟩
theorem kept_get (i : Nat) (hi : i < kept.length) : kept.getD i [] = kept[i] := by
  rw [List.getD_eq_getElem?_getD, List.getElem?_eq_getElem hi]; rfl
theorem kept_of (s : ByteArray) (h : ∀ j, j < 10 → ((keptS j).toList == s.toList) = false) : kept.contains (bs s) = false := by
  rw [← Bool.not_eq_true]
  intro hc
  rw [List.contains_iff_mem] at hc
  obtain ⟨i, hi, e⟩ := List.mem_iff_getElem.1 hc
  have h1 := h i hi
  rw [Lib.toList_data, Lib.toList_data, show (keptS i).data.toList = kept.getD i [] from by simp [keptS], kept_get i hi, e] at h1
  simp at h1
theorem kept_in (s : ByteArray) (i : Nat) (hi : i < 10) (h : ((keptS i).toList == s.toList) = true) : kept.contains (bs s) = true := by
  rw [beq_iff_eq, Lib.toList_data, Lib.toList_data, show (keptS i).data.toList = kept.getD i [] from by simp [keptS], kept_get i hi] at h
  rw [List.contains_iff_mem]
  unfold bs
  rw [← h]
  exact List.getElem_mem _
theorem kept_cells (w : World) (o : Obj) (i : Nat) (hi : i < 10) (h : o = .cells #[.string ⟨#[102, 110]⟩, .string ⟨#[108, 101, 116]⟩, .string ⟨#[105, 102]⟩, .string ⟨#[101, 108, 115, 101]⟩, .string ⟨#[114, 101, 112, 101, 97, 116]⟩, .string ⟨#[114, 101, 116]⟩, .string ⟨#[98, 111, 120]⟩, .string ⟨#[105, 110, 116]⟩, .string ⟨#[109, 117, 116]⟩, .string ⟨#[119, 104, 101, 114, 101]⟩] 9 (0, 0)) :
    (w.alloc o).cell? ⟨w.heap.size, i, none⟩ = some (.string (keptS i)) := by
  rw [Lib.cell_of_heap (by rw [h]; exact heap_alloc_new _ _)]
  have : ∀ j : Fin 10, (#[Value.string ⟨#[102, 110]⟩, .string ⟨#[108, 101, 116]⟩, .string ⟨#[105, 102]⟩, .string ⟨#[101, 108, 115, 101]⟩, .string ⟨#[114, 101, 112, 101, 97, 116]⟩, .string ⟨#[114, 101, 116]⟩, .string ⟨#[98, 111, 120]⟩, .string ⟨#[105, 110, 116]⟩, .string ⟨#[109, 117, 116]⟩, .string ⟨#[119, 104, 101, 114, 101]⟩] : Array Value)[j.val]? = some (.string (keptS j.val)) := fun j => by
    match j with
    | ⟨0, _⟩ => rfl
    | ⟨1, _⟩ => rfl
    | ⟨2, _⟩ => rfl
    | ⟨3, _⟩ => rfl
    | ⟨4, _⟩ => rfl
    | ⟨5, _⟩ => rfl
    | ⟨6, _⟩ => rfl
    | ⟨7, _⟩ => rfl
    | ⟨8, _⟩ => rfl
    | ⟨9, _⟩ => rfl
  exact this ⟨i, hi⟩
set_option maxHeartbeats 1000000 in
theorem rName_any (s : ByteArray) (w : World) (hs : s.size ≤ 4611686018427387904) : Calls Tryz.prog 83 #[.string s] w fun r w' => r = .returned (.bool (nameB (bs s))) ∧ Below w.heap.size w w' := by
  have C1 := hid (fun W => rIsWord_any s W hs)
  go_enter Tryz.func83, Tryz.ntmps83
  go_wp2_with fail
  have hb0 : Below w.heap.size w (w.alloc (.cells #[.string ⟨#[102, 110]⟩, .string ⟨#[108, 101, 116]⟩, .string ⟨#[105, 102]⟩, .string ⟨#[101, 108, 115, 101]⟩, .string ⟨#[114, 101, 112, 101, 97, 116]⟩, .string ⟨#[114, 101, 116]⟩, .string ⟨#[98, 111, 120]⟩, .string ⟨#[105, 110, 116]⟩, .string ⟨#[109, 117, 116]⟩, .string ⟨#[119, 104, 101, 114, 101]⟩] 9 (0, 0))) := (Below.refl _ _).alloc (Nat.le_refl _) _
  have hk := fun i hi => kept_cells w _ i hi rfl
  generalize w.alloc _ = W1 at *
  go_loopg [4] 10 (fun gf v wx => ∃ i : Nat, v = .int .i64 (i : Int) ∧ i ≤ 10 ∧ 10 ≤ i + gf ∧ Hid (∀ j, j < i → ((keptS j).toList == s.toList) = false) ∧ wx = W1)
  case atStart => exact ⟨0, rfl, by omega, by omega, hid (fun j hj => by omega), rfl⟩
  case round =>
    obtain ⟨i, rfl, hi, hg, HR, rfl⟩ := hrel
    by_cases hlt : i < 10
    · have hc := hk i hlt
      have HK := hid hk
      clear hk
      cases ht : ((keptS i).toList == s.toList)
      · go_wp2_with fail
        go_roundg (gk - 1)
        case measure => omega
        case rel => exact ⟨i + 1, by go_num, by omega, by omega, hid (fun j hj => by
          by_cases h : j < i
          · exact HR.out j h
          · obtain rfl : j = i := by omega
            exact ht), rfl⟩
      · have K := hid (kept_in s i hlt ht)
        go_wp2_with fail
        go_ret
        exact ⟨ret_bool (by unfold nameB; rw [K.out]; rfl), hb0⟩
    · obtain rfl : i = 10 := by omega
      have K := hid (kept_of s HR.out)
      clear hk
      go_wp2_with fail
      refine (C1.out _).mono ?_
      rintro e W2 ⟨rfl, rfl⟩
      go_wp2_with fail
      go_ret
      exact ⟨ret_bool (by unfold nameB; rw [K.out]; rfl), hb0⟩
end Go.Proofs.YtjkdcladjjpmoaaGreatDoor.TreeC
/- Small lemmas of the walks over trees. -/
namespace Go.Proofs.YtjkdcladjjpmoaaGreatDoor.TreeC
open Go Go.RowKit Go.Lib Go.Proofs.YtjkdcladjjpmoaaGreatDoor.LexP Go.Proofs.YtjkdcladjjpmoaaGreatDoor.TreeP Go.Proofs.YtjkdcladjjpmoaaGreatDoor.LexC

/-- a cell that was there reads as it did -/
theorem later {w w' : World} (h : Below w.heap.size w w') {b o : Nat} {u : Value} (hc : w.cell? ⟨b, o, none⟩ = some u) : w'.cell? ⟨b, o, none⟩ = some u := Keeps.of_below h b o u hc
theorem box_cell (w : World) (cs : List Value) (T : TypeId) (j : Nat) (u : Value) (h : cs[j]? = some u) : (w.alloc (.cells cs.toArray T (0, 0))).cell? ⟨w.heap.size, j, none⟩ = some u := by
  rw [Lib.cell_of_heap (heap_alloc_new _ _)]
  simpa using h
theorem drop_cons {α : Type} {l : List α} {n : Nat} {c : α} (h : l[n]? = some c) : l.drop n = c :: l.drop (n + 1) := by
  have hlt : n < l.length := (List.getElem?_eq_some_iff.1 h).1
  rw [List.drop_eq_getElem_cons hlt, (List.getElem?_eq_some_iff.1 h).2]
theorem rightEs_drop {l : List Ex} {i : Nat} {t : Ex} (h : l[i]? = some t) : rightEs (l.drop i) = (rightE t && rightEs (l.drop (i + 1))) := by rw [drop_cons h, rightEs]
theorem rightTs_drop {l : List Ty} {i : Nat} {t : Ty} (h : l[i]? = some t) : rightTs (l.drop i) = (rightT t && rightTs (l.drop (i + 1))) := by rw [drop_cons h, rightTs]


section
variable {P : Program}
/-- a struct is read out of the middle of a row -/
theorem run_loadVar_at (w : World) (b off : Nat) (ty : TypeId) (cs : List Value) (d : TypeDesc) (hc : ∀ (j : Nat) (u : Value), cs[j]? = some u → w.cell? ⟨b, off + j, none⟩ = some u)
    (hu : P.underlying ty = some d) (hd : (match d with | .struct _ | .array _ _ => true | _ => false) = true) (hi : (P.info? ty).map (·.size) = some cs.length) :
    (loadVar ty ⟨b, off, none⟩).run P w = .ok (.agg cs.toArray) w := by
  have hl : (loadCells ⟨b, off, none⟩ cs.length).run P w = .ok cs.toArray w :=
    run_loadCells_list (P := P) w ⟨b, off, none⟩ cs (fun j v hv => by
      have hadd : (⟨b, off, none⟩ : Addr).add j = ⟨b, off + j, none⟩ := by unfold Addr.add; split <;> simp_all
      rw [hadd, hc j v hv])
  cases hq : P.info? ty with
  | none => simp [hq] at hi
  | some i =>
    have hs : i.size = cs.length := by simpa [hq] using hi
    have hagg : (isAgg ty).run P w = .ok true w := by
      unfold isAgg
      rw [Sem.run_bind, run_underlying hu w]
      cases d <;> simp_all
    simp [loadVar, Sem.run_bind, hagg, sizeOf, typeInfo, hq, hs, hl]
theorem wp_load_at {o : Oper} {a : Act} {w : World} {K : Act → World → Prop} {Q : Exit → Act → World → Prop} (ty : TypeId) (x : Operand) (ho : o.op = .load ty x)
    (b off : Nat) (hx : a.eval x = .pointer (some ⟨b, off, none⟩)) (cs : List Value) (d : TypeDesc) (hc : ∀ (j : Nat) (u : Value), cs[j]? = some u → w.cell? ⟨b, off + j, none⟩ = some u)
    (hu : P.underlying ty = some d) (hd : (match d with | .struct _ | .array _ _ => true | _ => false) = true) (hi : (P.info? ty).map (·.size) = some cs.length)
    (h : K (a.put o.dst (.agg cs.toArray)) w) : o.wp P a w K Q := by
  unfold Oper.wp execOp
  simp only [ho, hx, Instr.loadAt, Instr.sureAddr, Sem.run_bind, Sem.run_pure, Result.andThen_ok, run_loadVar_at w b off ty cs d hc hu hd hi]
  exact h
theorem wpList_load_at {ops : Array Oper} {rest : List Oper} {o : Oper} {a : Act} {w : World} {Q : Exit → Act → World → Prop} (hw : Region.wanted o (yielded ops a.tmps) = true) (ty : TypeId) (x : Operand) (ho : o.op = .load ty x)
    (b off : Nat) (hx : a.eval x = .pointer (some ⟨b, off, none⟩)) (cs : List Value) (d : TypeDesc) (hc : ∀ (j : Nat) (u : Value), cs[j]? = some u → w.cell? ⟨b, off + j, none⟩ = some u)
    (hu : P.underlying ty = some d) (hd : (match d with | .struct _ | .array _ _ => true | _ => false) = true) (hi : (P.info? ty).map (·.size) = some cs.length)
    (h : wpList P ops Q rest (a.put o.dst (.agg cs.toArray)) w) : wpList P ops Q (o :: rest) a w := by
  refine wpList_step fun K hK => ?_
  rw [if_pos hw]
  exact wp_load_at ty x ho b off hx cs d hc hu hd hi (hK _ _ h)
end
theorem stSize (s : St) : (Tryz.prog.info? 111).map (·.size) = some s.cells.length := by
  obtain ⟨a, b, ⟨c1, c2, c3, c4, c5, c6⟩, ⟨d1, d2, d3, d4, d5, d6⟩, e, f, g, h⟩ := s
  exact (show (Tryz.prog.info? 111).map (·.size) = some 14 by kernel_rfl)
theorem exSize (s : Ex) : (Tryz.prog.info? 51).map (·.size) = some s.cells.length := by
  obtain ⟨c1, c2, c3, c4, c5, c6⟩ := s
  exact (show (Tryz.prog.info? 51).map (·.size) = some 5 by kernel_rfl)
theorem tySize (s : Ty) : (Tryz.prog.info? 45).map (·.size) = some s.cells.length := by
  obtain ⟨c1, c2, c3, c4, c5⟩ := s
  exact (show (Tryz.prog.info? 45).map (·.size) = some 4 by kernel_rfl)
theorem paSize (s : Pa) : (Tryz.prog.info? 59).map (·.size) = some s.cells.length := by
  obtain ⟨a, ⟨c1, c2, c3, c4, c5⟩⟩ := s
  exact (show (Tryz.prog.info? 59).map (·.size) = some 5 by kernel_rfl)
theorem fnSize (s : TreeP.Fn) : (Tryz.prog.info? 53).map (·.size) = some s.cells.length := by
  obtain ⟨a, b, b1, b2, b3, ⟨c1, c2, c3, c4, c5⟩, d1, d2, d3, d4, ⟨e1, e2, e3, e4, e5, e6⟩⟩ := s
  exact (show (Tryz.prog.info? 53).map (·.size) = some 14 by kernel_rfl)

/-- a block holds these cells -/
def BoxAt (w : World) (b : Nat) (cs : List Value) : Prop := ∀ (j : Nat) (u : Value), cs[j]? = some u → w.cell? ⟨b, j, none⟩ = some u
theorem BoxAt.new (w : World) (cs : List Value) (T : TypeId) : BoxAt (w.alloc (.cells cs.toArray T (0, 0))) w.heap.size cs := fun j u h => box_cell w cs T j u h
theorem BoxAt.later {w w' : World} {b : Nat} {cs : List Value} (h : BoxAt w b cs) (hb : Below w.heap.size w w') : BoxAt w' b cs := fun j u hj => TreeC.later hb (h j u hj)
theorem BoxAt.keep {w w' : World} {b : Nat} {cs : List Value} (h : BoxAt w b cs) (k : Keeps w w') : BoxAt w' b cs := fun j u hj => k _ _ _ (h j u hj)
theorem BoxAt.lt {w : World} {b : Nat} {c : Value} {cs : List Value} (h : BoxAt w b (c :: cs)) : b < w.heap.size := World.block_lt_of_cell? w _ (h 0 c rfl)
theorem St.cells_place {k : Int} {n : ByteArray} {p e : Ex} {tv ev : Value} {thn els : List St} {j : Nat} {u : Value} (h : p.cells[j]? = some u) : (St.mk k n p e tv thn ev els).cells[2 + j]? = some u := by
  obtain ⟨c1, c2, c3, c4, c5, c6⟩ := p
  match j, h with
  | 0, h => exact h
  | 1, h => exact h
  | 2, h => exact h
  | 3, h => exact h
  | 4, h => exact h
  | j + 5, h => simp [Ex.cells] at h
theorem St.cells_expr {k : Int} {n : ByteArray} {p e : Ex} {tv ev : Value} {thn els : List St} {j : Nat} {u : Value} (h : e.cells[j]? = some u) : (St.mk k n p e tv thn ev els).cells[7 + j]? = some u := by
  obtain ⟨c1, c2, c3, c4, c5, c6⟩ := p
  obtain ⟨d1, d2, d3, d4, d5, d6⟩ := e
  match j, h with
  | 0, h => exact h
  | 1, h => exact h
  | 2, h => exact h
  | 3, h => exact h
  | 4, h => exact h
  | j + 5, h => simp [Ex.cells] at h
theorem St.cells_tv (k : Int) (n : ByteArray) (p e : Ex) (tv ev : Value) (thn els : List St) : (St.mk k n p e tv thn ev els).cells[12]? = some tv := by
  obtain ⟨c1, c2, c3, c4, c5, c6⟩ := p
  obtain ⟨d1, d2, d3, d4, d5, d6⟩ := e
  rfl
theorem St.cells_ev (k : Int) (n : ByteArray) (p e : Ex) (tv ev : Value) (thn els : List St) : (St.mk k n p e tv thn ev els).cells[13]? = some ev := by
  obtain ⟨c1, c2, c3, c4, c5, c6⟩ := p
  obtain ⟨d1, d2, d3, d4, d5, d6⟩ := e
  rfl
end Go.Proofs.YtjkdcladjjpmoaaGreatDoor.TreeC
/- A law for a region that draws its order: a struct is read out of the middle of a row, in every world of the class. -/
namespace Go.Proofs.YtjkdcladjjpmoaaGreatDoor.TreeC
open Go Go.RowKit Go.Lib Go.Sort Go.Proofs.YtjkdcladjjpmoaaGreatDoor.LexP Go.Proofs.YtjkdcladjjpmoaaGreatDoor.TreeP Go.Proofs.YtjkdcladjjpmoaaGreatDoor.LexC

section
variable {P : Program}
theorem wpQuiet_load_at {ops : Array Oper} {C : World → Prop} {Q : Act → Prop} {rest : List Oper} {o : Oper} {a : Act} (hw : Region.wanted o (yielded ops a.tmps) = true) (ty : TypeId) (x : Operand) (ho : o.op = .load ty x)
    (b off : Nat) (hx : a.eval x = .pointer (some ⟨b, off, none⟩)) (cs : List Value) (d : TypeDesc) (hc : ∀ w, C w → ∀ (j : Nat) (u : Value), cs[j]? = some u → w.cell? ⟨b, off + j, none⟩ = some u)
    (hu : P.underlying ty = some d) (hd : (match d with | .struct _ | .array _ _ => true | _ => false) = true) (hi : (P.info? ty).map (·.size) = some cs.length)
    (h : wpQuiet P ops C Q rest (a.put o.dst (.agg cs.toArray))) : wpQuiet P ops C Q (o :: rest) a := by
  refine wpQuiet_step fun K hK => ?_
  rw [if_pos hw]
  refine ⟨.agg cs.toArray, fun w hCw => ?_, hK _ h⟩
  unfold Oper.quietAt execOp
  simp only [ho, hx, Instr.loadAt, Instr.sureAddr, Sem.run_bind, Sem.run_pure, Result.andThen_ok, run_loadVar_at w b off ty cs d (hc w hCw) hu hd hi]
  exact ⟨rfl, rfl⟩
end
/-- what is read in a world is read in each of the class -/
theorem reg_cells {w : World} {b off : Nat} {cs : List Value} (h : ∀ (j : Nat) (u : Value), cs[j]? = some u → w.cell? ⟨b, off + j, none⟩ = some u) :
    ∀ w', (∃ p : Regrown, w' = grow (redrawn w p.d) p.os) → ∀ (j : Nat) (u : Value), cs[j]? = some u → w'.cell? ⟨b, off + j, none⟩ = some u := by
  rintro w' ⟨p, rfl⟩ j u hj
  exact cell_regrown (h j u hj) _ _
theorem box_get {w : World} {b : Nat} {cs : List Value} (h : BoxAt w b cs) {j : Nat} {u : Value} (hj : cs[j]? = some u) : w.cell? ⟨b, j, none⟩ = some u := h j u hj
theorem St.at_place {k : Int} {n : ByteArray} {p e : Ex} {tv ev : Value} {thn els : List St} {w : World} {b off : Nat} (h : ∀ (j : Nat) (u : Value), (St.mk k n p e tv thn ev els).cells[j]? = some u → w.cell? ⟨b, off + j, none⟩ = some u) :
    ∀ (j : Nat) (u : Value), p.cells[j]? = some u → w.cell? ⟨b, off + 2 + j, none⟩ = some u := fun j u hj => by
  rw [Nat.add_assoc]; exact h _ u (St.cells_place hj)
theorem St.at_expr {k : Int} {n : ByteArray} {p e : Ex} {tv ev : Value} {thn els : List St} {w : World} {b off : Nat} (h : ∀ (j : Nat) (u : Value), (St.mk k n p e tv thn ev els).cells[j]? = some u → w.cell? ⟨b, off + j, none⟩ = some u) :
    ∀ (j : Nat) (u : Value), e.cells[j]? = some u → w.cell? ⟨b, off + 7 + j, none⟩ = some u := fun j u hj => by
  rw [Nat.add_assoc]; exact h _ u (St.cells_expr hj)
end Go.Proofs.YtjkdcladjjpmoaaGreatDoor.TreeC
/- Plain lemmas: a text is a word just if it is lexed to that word. No program is imported. -/
namespace Go.Proofs.YtjkdcladjjpmoaaGreatDoor.TreeP
open Go.Proofs.YtjkdcladjjpmoaaGreatDoor.LexP

theorem lexG_acc : ∀ (n a : Nat) (l : List UInt8) (acc ts : List Tok), lexG n a l acc = .inr ts → ∃ more, ts = acc ++ more
  | 0, a, l, acc, ts, h => by simp only [lexG, Sum.inr.injEq] at h; exact ⟨[], by simp [h]⟩
  | n + 1, a, l, acc, ts, h => by
    rw [lexG] at h
    split at h
    · simp only [Sum.inr.injEq] at h; exact ⟨[], by simp [h]⟩
    · split at h
      · cases h
      · obtain ⟨more, e⟩ := lexG_acc n _ _ _ _ h
        exact ⟨_, by rw [e, List.append_assoc]⟩
theorem word_let {l : List UInt8} (h : 0 < wordN l) : ∃ c r, l = c :: r ∧ isLet c = true := by
  cases l with
  | nil => simp [wordN, span] at h
  | cons c r =>
    refine ⟨c, r, rfl, ?_⟩
    unfold wordN at h
    split at h
    · omega
    · rename_i hn
      have hd : span isDig (c :: r) = 0 := by omega
      have hc : isDig c = false := by
        cases e : isDig c with
        | false => rfl
        | true => rw [span_cons_t _ _ _ e] at hd; omega
      have hw : inWd c = true := by
        cases e : inWd c with
        | true => rfl
        | false => rw [span_cons_f _ _ _ e] at h; omega
      simpa [inWd, hc] using hw
theorem word_skip {l : List UInt8} (h : 0 < wordN l) : skip l = 0 := by
  obtain ⟨c, r, rfl, hc⟩ := word_let h
  have h1 : isBl c = false := by simp [isLet] at hc; simp [isBl]; omega
  have h2 : c.toNat ≠ 47 := by simp [isLet] at hc; omega
  refine skip_zero _ (span_cons_f _ _ _ h1) ?_
  rw [rem_cons]
  simp [h2]
theorem lex_word {l : List UInt8} (h : wordB l = true) : lexA l = .inr [⟨1, 0, l⟩] := by
  unfold wordB at h
  simp only [Bool.and_eq_true, Bool.not_eq_true', List.isEmpty_eq_false_iff, beq_iff_eq] at h
  obtain ⟨hne, hw⟩ := h
  have hlen : 0 < l.length := List.length_pos_iff.2 hne
  have h0 : 0 < wordN l := by omega
  have hs := word_skip h0
  obtain ⟨m, hm⟩ : ∃ m, l.length = m + 1 := ⟨l.length - 1, by omega⟩
  have hsn : signN l = l.length := by unfold signN; rw [if_pos h0, hw]
  have hsk : signK l = 1 := by unfold signK; rw [if_pos h0]
  unfold lexA
  rw [hs, hm, List.drop_zero, lexG, if_neg hne, if_neg (by omega), hsn, hsk, List.drop_length, List.take_length]
  cases m <;> simp [lexG, skip, skipM]
theorem word_lex {l : List UInt8} {t : Tok} {ts : List Tok} (h : lexA l = .inr (t :: ts)) (hk : t.kind = 1) (ht : t.text = l) : wordB l = true := by
  unfold lexA at h
  cases hl : l.length with
  | zero => rw [hl, lexG] at h; simp at h
  | succ m =>
    rw [hl, lexG] at h
    split at h
    · simp at h
    · split at h
      · cases h
      · rename_i h1 h2
        obtain ⟨more, e⟩ := lexG_acc _ _ _ _ _ h
        simp only [List.nil_append, List.cons_append, List.cons.injEq] at e
        obtain ⟨e1, _⟩ := e
        subst e1
        simp only at hk ht
        have hlt := congrArg List.length ht
        rw [List.length_take, List.length_drop, hl] at hlt
        have hs0 : skip l = 0 := by omega
        rw [hs0, List.drop_zero] at hk ht hlt
        have hw : 0 < wordN l := by
          unfold signK at hk
          split at hk
          · assumption
          · split at hk
            · omega
            · split at hk
              · omega
              · split at hk <;> omega
        have hsn : signN l = wordN l := by unfold signN; rw [if_pos hw]
        have hle := wordN_le l
        unfold wordB
        rw [hsn] at hlt
        have : wordN l = l.length := by omega
        have hne : l ≠ [] := by intro e; rw [e] at hl; simp at hl
        simp [this, hne]
theorem word_len {l : List UInt8} (h : wordB l = true) : l.length ≤ 30 := by
  unfold wordB at h
  simp only [Bool.and_eq_true, beq_iff_eq] at h
  have := wordN_le l
  omega
end Go.Proofs.YtjkdcladjjpmoaaGreatDoor.TreeP
